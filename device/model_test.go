package device_test

import (
	"bytes"
	"slices"
	"testing"

	"proctor/api"
	"proctor/device"
)

// dice is a source of numbers that is the same in every run.
type dice uint64

func (d *dice) below(n int) int {
	*d = *d*6364136223846793005 + 1442695040888963407
	return int(uint64(*d) >> 33 % uint64(n))
}

// act is one call: a read or a write of a block.
type act struct {
	kind, block int
}

// model is a device that keeps nothing but what was done to it: each answer is
// worked out from the list of acts that counted.
type model struct {
	g       device.Geometry
	input   []byte
	blocks  [][]byte
	faults  []device.Fault
	acts    []act
	struck  int
	crashed bool
}

// strikes is the faults of the kind that strike the last act, in the order of the list.
func (m *model) strikes(kind int) []device.Fault {
	last := m.acts[len(m.acts)-1]
	nth := 0
	for _, a := range m.acts {
		if a.kind == last.kind && (a.block == last.block || a.kind == device.FaultWrite) {
			nth++
		}
	}
	return slices.DeleteFunc(slices.Clone(m.faults), func(f device.Fault) bool {
		otherBlock := last.kind != device.FaultWrite && f.Block != last.block
		return f.Kind != kind || f.Nth != nth || otherBlock
	})
}

func (m *model) read(kind, b int, blocks [][]byte) ([]byte, api.Errno) {
	if m.crashed {
		return nil, api.ErrDown
	}
	if b < 0 || b >= len(blocks) {
		return nil, api.ErrBlock
	}
	m.acts = append(m.acts, act{kind, b})
	if len(m.strikes(kind)) > 0 {
		m.struck++
		return nil, api.ErrRead
	}
	return blocks[b], api.OK
}

func (m *model) write(b int, data []byte) api.Errno {
	if m.crashed {
		return api.ErrDown
	}
	if b < 0 || b >= len(m.blocks) {
		return api.ErrBlock
	}
	if len(data) != m.g.Block {
		return api.ErrSize
	}
	m.acts = append(m.acts, act{device.FaultWrite, b})
	if crashes := m.strikes(device.FaultCrash); len(crashes) > 0 {
		m.struck++
		m.crashed = true
		m.blocks[b] = slices.Concat(data[:crashes[0].Keep], m.blocks[b][crashes[0].Keep:])
		return api.ErrDown
	}
	if len(m.strikes(device.FaultWrite)) > 0 {
		m.struck++
		return api.ErrWrite
	}
	m.blocks[b] = slices.Clone(data)
	return api.OK
}

func (m *model) counts() device.Counts {
	c := device.Counts{Struck: m.struck}
	for _, a := range m.acts {
		switch a.kind {
		case device.FaultInput:
			c.Input++
		case device.FaultScratch:
			c.Scratch++
		default:
			c.Writes++
		}
	}
	return c
}

func cut(p []byte, size int) [][]byte {
	return slices.Collect(slices.Chunk(p, size))
}

func rollBytes(d *dice, size int) []byte {
	p := make([]byte, size)
	for i := range p {
		p[i] = byte(d.below(256))
	}
	return p
}

func rollFaults(d *dice, g device.Geometry) []device.Fault {
	faults := make([]device.Fault, d.below(12))
	for i := range faults {
		faults[i] = device.Fault{Kind: 1 + d.below(3), Block: d.below(4), Nth: 1 + d.below(6), Keep: d.below(g.Block + 1)}
		if d.below(8) == 0 {
			faults[i].Kind, faults[i].Nth = device.FaultCrash, 1+d.below(20)
		}
	}
	return faults
}

func TestADeviceIsItsModel(t *testing.T) {
	roll := dice(3)
	for round := range 600 {
		g := device.Geometry{Block: 16 + roll.below(4), Scratch: roll.below(4)}
		input := rollBytes(&roll, roll.below(70))
		scratch := rollBytes(&roll, roll.below(g.Block*g.Scratch+1))
		faults := rollFaults(&roll, g)
		d := made(t, g, input, scratch, faults...)
		whole := make([]byte, g.Block*g.Scratch)
		copy(whole, scratch)
		m := &model{g: g, input: input, blocks: cut(whole, g.Block), faults: faults}
		for step := range 60 {
			b := roll.below(6) - 1
			var p, wantP []byte
			var e, wantE api.Errno
			switch roll.below(3) {
			case 0:
				p, e = d.ReadInput(b)
				wantP, wantE = m.read(device.FaultInput, b, cut(input, g.Block))
			case 1:
				p, e = d.ReadScratch(b)
				wantP, wantE = m.read(device.FaultScratch, b, m.blocks)
			default:
				size := g.Block
				if roll.below(10) == 0 {
					size = roll.below(2 * g.Block)
				}
				data := rollBytes(&roll, size)
				e, wantE = d.WriteScratch(b, data), m.write(b, data)
			}
			if e != wantE || !bytes.Equal(p, wantP) || d.Down() != m.crashed || d.Counts() != m.counts() || !bytes.Equal(d.Image(), slices.Concat(m.blocks...)) {
				t.Fatalf("round %d, step %d, faults %v: %v, %d, %v; want %v, %d, %v", round, step, faults, p, e, d.Counts(), wantP, wantE, m.counts())
			}
		}
	}
}
