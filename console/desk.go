package console

import (
	"proctor/api"
	"proctor/checker"
	"proctor/config"
	"proctor/device"
	"proctor/halt"
	"proctor/logfile"
	"proctor/machine"
	"proctor/notation"
	"proctor/report"
)

// What a check's device has: room enough for each log that a script can have.
const (
	blockBytes    = 1024
	scratchBlocks = 4096
)

// desk is what the lines of one script work on.
type desk struct {
	config  api.Config
	list    []api.Txn
	input   []byte
	machine *machine.Machine // nil until a script has made one
}

func newDesk() *desk { return &desk{config: config.Usual()} }

func (d *desk) configure(g given) (string, api.Errno) {
	c, e := config.Parse(g.text)
	if e != api.OK {
		return "", e
	}
	d.config = c
	return say("ok"), api.OK
}

func (d *desk) add(g given) (string, api.Errno) {
	if len(d.list) >= api.MaxTxns {
		return "", api.ErrTxns
	}
	t, e := notation.Parse(g.text)
	if e != api.OK {
		return "", e
	}
	d.list = append(d.list, t)
	return done(len(d.list)), api.OK
}

func (d *desk) drop(given) (string, api.Errno) {
	d.list = nil
	return say("ok"), api.OK
}

func (d *desk) raw(g given) (string, api.Errno) {
	if len(g.words[0]) > api.MaxRaw {
		return "", api.ErrInput
	}
	d.input = []byte(g.words[0])
	return done(len(d.input)), api.OK
}

func (d *desk) seal(given) (string, api.Errno) {
	log, _, e := logfile.Encode(d.list)
	if e != api.OK {
		return "", e
	}
	d.input = log
	return done(len(log)), api.OK
}

func (d *desk) run(given) (string, api.Errno) { return d.check(nil) }

func (d *desk) until(g given) (string, api.Errno) {
	stop, e := halt.New(g.numbers[0])
	if e != api.OK {
		return "", e
	}
	return d.check(stop)
}

// check answers the text of the outcome of a check of the input; a nil stop is none.
func (d *desk) check(stop *halt.Stop) (string, api.Errno) {
	g := device.Geometry{Block: blockBytes, Scratch: scratchBlocks}
	dev, e := device.New(g, d.input, nil, nil)
	if e != api.OK {
		return "", e
	}
	return report.Render(checker.RunUntil(d.config, dev, stop))
}
