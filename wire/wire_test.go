package wire_test

import (
	"bytes"
	"math"
	"strings"
	"testing"

	"proctor/api"
	"proctor/wire"
)

// form is a number and its bytes, at the edges of every size.
type form struct {
	n     int
	bytes []byte
}

func forms() []form {
	return []form{
		{0, []byte{0}},
		{1, []byte{1}},
		{127, []byte{127}},
		{128, []byte{128, 1}},
		{129, []byte{129, 1}},
		{255, []byte{255, 1}},
		{256, []byte{128, 2}},
		{300, []byte{172, 2}},
		{1<<14 - 1, []byte{255, 127}},
		{1 << 14, []byte{128, 128, 1}},
		{1<<21 - 1, []byte{255, 255, 127}},
		{1 << 21, []byte{128, 128, 128, 1}},
		{1<<28 - 1, []byte{255, 255, 255, 127}},
		{1 << 28, []byte{128, 128, 128, 128, 1}},
		{1<<35 - 1, []byte{255, 255, 255, 255, 127}},
		{1 << 35, []byte{128, 128, 128, 128, 128, 1}},
		{1<<42 - 1, []byte{255, 255, 255, 255, 255, 127}},
		{1 << 42, []byte{128, 128, 128, 128, 128, 128, 1}},
		{1<<49 - 1, []byte{255, 255, 255, 255, 255, 255, 127}},
		{1 << 49, []byte{128, 128, 128, 128, 128, 128, 128, 1}},
		{api.MaxNumber - 1, []byte{254, 255, 255, 255, 255, 255, 255, 127}},
		{api.MaxNumber, []byte{255, 255, 255, 255, 255, 255, 255, 127}},
	}
}

// noNumbers is what has no form; some would have one if their high bits were lost.
func noNumbers() []int {
	return []int{-1, -128, math.MinInt, math.MinInt + 1, api.MaxNumber + 1, api.MaxNumber + 2, 1 << 57, 1 << 62, math.MaxInt}
}

// stands looks at all that a cursor tells of itself.
func stands(t *testing.T, c *wire.Cursor, offset, left int, fault api.Errno) {
	t.Helper()
	if c.Offset() != offset || c.Left() != left || c.Fault() != fault {
		t.Errorf("offset %d, left %d, fault %d; want %d, %d, %d", c.Offset(), c.Left(), c.Fault(), offset, left, fault)
	}
}

func readsByte(t *testing.T, c *wire.Cursor, want byte, wantErr api.Errno) {
	t.Helper()
	if b, e := c.Byte(); b != want || e != wantErr {
		t.Errorf("Byte() = %d, %d; want %d, %d", b, e, want, wantErr)
	}
}

func readsNumber(t *testing.T, c *wire.Cursor, most int, want int, wantErr api.Errno) {
	t.Helper()
	if n, e := c.Number(most); n != want || e != wantErr {
		t.Errorf("Number(%d) = %d, %d; want %d, %d", most, n, e, want, wantErr)
	}
}

func readsText(t *testing.T, c *wire.Cursor, least, most int, want string, wantErr api.Errno) {
	t.Helper()
	if s, e := c.Text(least, most); s != want || e != wantErr {
		t.Errorf("Text(%d, %d) = %q, %d; want %q, %d", least, most, s, e, want, wantErr)
	}
}

func takes(t *testing.T, c *wire.Cursor, n int, want []byte, wantErr api.Errno) {
	t.Helper()
	if p, e := c.Take(n); !bytes.Equal(p, want) || e != wantErr {
		t.Errorf("Take(%d) = %v, %d; want %v, %d", n, p, e, want, wantErr)
	}
}

// refuses asks every reading call of a cursor with a fault, also with arguments
// that are wrong in themselves: all answer the fault, and nothing moves.
func refuses(t *testing.T, c *wire.Cursor, offset, left int, fault api.Errno) {
	t.Helper()
	stands(t, c, offset, left, fault)
	readsByte(t, c, 0, fault)
	readsNumber(t, c, api.MaxNumber, 0, fault)
	readsNumber(t, c, -1, 0, fault)
	readsText(t, c, 0, api.MaxNumber, "", fault)
	readsText(t, c, 1, 0, "", fault)
	takes(t, c, 0, nil, fault)
	takes(t, c, -1, nil, fault)
	takes(t, c, math.MaxInt, nil, fault)
	stands(t, c, offset, left, fault)
}

// P5.1: the size and the bytes of a number, and what has none.
func TestNumbers(t *testing.T) {
	for _, f := range forms() {
		if got := wire.Size(f.n); got != len(f.bytes) {
			t.Errorf("Size(%d) = %d, want %d", f.n, got, len(f.bytes))
		}
		if p, e := wire.Append(nil, f.n); e != api.OK || !bytes.Equal(p, f.bytes) {
			t.Errorf("Append(nil, %d) = %v, %d; want %v", f.n, p, e, f.bytes)
		}
		want := append([]byte{9, 128, 0}, f.bytes...)
		if p, e := wire.Append([]byte{9, 128, 0}, f.n); e != api.OK || !bytes.Equal(p, want) {
			t.Errorf("Append(9 128 0, %d) = %v, %d; want %v", f.n, p, e, want)
		}
	}
	for _, n := range noNumbers() {
		if got := wire.Size(n); got != 0 {
			t.Errorf("Size(%d) = %d, want 0", n, got)
		}
		for _, dst := range [][]byte{nil, {1, 2}} {
			if p, e := wire.Append(dst, n); p != nil || e != api.ErrNumber {
				t.Errorf("Append(%v, %d) = %v, %d; want nil, %d", dst, n, p, e, api.ErrNumber)
			}
		}
	}
}

// P5.1: a text of any bytes, and lengths of one, two and three bytes.
func TestTexts(t *testing.T) {
	for _, c := range []struct {
		text   string
		length []byte
	}{
		{"", []byte{0}},
		{"a", []byte{1}},
		{"\x00\xff\x80\n", []byte{4}},
		{"é世", []byte{5}},
		{strings.Repeat("x", 127), []byte{127}},
		{strings.Repeat("x", 128), []byte{128, 1}},
		{strings.Repeat("\xff", 16383), []byte{255, 127}},
		{strings.Repeat("\x80", 16384), []byte{128, 128, 1}},
	} {
		for _, dst := range []string{"", "\x05\x80"} {
			want := dst + string(c.length) + c.text
			p, e := wire.AppendText([]byte(dst), c.text)
			if e != api.OK || string(p) != want {
				t.Errorf("AppendText(%q, a text of %d) = %q, %d", dst, len(c.text), p, e)
			}
		}
		cur := wire.Open(append(bytes.Clone(c.length), c.text...))
		readsText(t, cur, len(c.text), len(c.text), c.text, api.OK)
		stands(t, cur, len(c.length)+len(c.text), 0, api.OK)
	}
}

// P5.1: dst and its spare room stay as they are, and the answer is apart from
// both dst and every other answer.
func TestAppendIsNew(t *testing.T) {
	calls := []func(dst []byte) ([]byte, api.Errno){
		func(dst []byte) ([]byte, api.Errno) { return wire.Append(dst, 300) },
		func(dst []byte) ([]byte, api.Errno) { return wire.AppendText(dst, "ab") },
		func(dst []byte) ([]byte, api.Errno) { return wire.AppendText(dst, "") },
		func(dst []byte) ([]byte, api.Errno) { return wire.Append(dst, -1) },
	}
	for i, call := range calls {
		for _, length := range []int{0, 3} {
			whole := []byte{1, 2, 3, 4, 5, 6, 7, 8, 9, 10}
			before := bytes.Clone(whole)
			one, _ := call(whole[:length])
			two, _ := call(whole[:length])
			want := bytes.Clone(two)
			one = one[:cap(one)]
			for j := range one {
				one[j] = 77
			}
			if !bytes.Equal(whole, before) {
				t.Errorf("call %d changed dst to %v", i, whole)
			}
			if !bytes.Equal(two, want) {
				t.Errorf("call %d: another answer changed to %v", i, two)
			}
			for j := range whole {
				whole[j] = 88
			}
			if !bytes.Equal(two, want) {
				t.Errorf("call %d: the answer changed with dst to %v", i, two)
			}
		}
	}
}

// P5.2: a new cursor stands at 0 without a fault, over a copy.
func TestOpen(t *testing.T) {
	stands(t, wire.Open(nil), 0, 0, api.OK)
	stands(t, wire.Open([]byte{}), 0, 0, api.OK)
	stands(t, wire.Open([]byte{255, 255, 0}), 0, 3, api.OK)

	data := []byte{7, 2, 97, 98, 5}
	c, other := wire.Open(data), wire.Open(data)
	for i := range data {
		data[i] = 255
	}
	readsByte(t, c, 7, api.OK)
	readsText(t, c, 0, 9, "ab", api.OK)
	readsNumber(t, c, 9, 5, api.OK)
	stands(t, c, 5, 0, api.OK)
	stands(t, other, 0, 5, api.OK)
	readsByte(t, other, 7, api.OK)
}

// P5.2: a cursor ends where data ends, not where its spare room does.
func TestOpenWithSpareRoom(t *testing.T) {
	c := wire.Open([]byte{130, 1, 97}[:1])
	stands(t, c, 0, 1, api.OK)
	readsNumber(t, c, 999, 0, api.ErrEnd)
}

// P5.3, P5.6: items of all kinds behind each other, and where the cursor stands.
func TestReadsInARow(t *testing.T) {
	c := wire.Open([]byte{200, 172, 2, 0, 2, 97, 0, 9, 8, 7, 0, 1})
	readsByte(t, c, 200, api.OK)
	stands(t, c, 1, 11, api.OK)
	readsNumber(t, c, 300, 300, api.OK)
	stands(t, c, 3, 9, api.OK)
	readsNumber(t, c, 0, 0, api.OK)
	stands(t, c, 4, 8, api.OK)
	readsText(t, c, 2, 2, "a\x00", api.OK)
	stands(t, c, 7, 5, api.OK)
	takes(t, c, 3, []byte{9, 8, 7}, api.OK)
	stands(t, c, 10, 2, api.OK)
	readsText(t, c, 0, 0, "", api.OK)
	stands(t, c, 11, 1, api.OK)
	takes(t, c, 0, nil, api.OK)
	readsByte(t, c, 1, api.OK)
	stands(t, c, 12, 0, api.OK)
	takes(t, c, 0, nil, api.OK)
	stands(t, c, 12, 0, api.OK)
	readsByte(t, c, 0, api.ErrEnd)
	refuses(t, c, 12, 0, api.ErrEnd)
}

// P5.3: each fault of each call stays, the place before the item, and what
// could be read there is not read any more.
func TestFaultStays(t *testing.T) {
	long := []byte{255, 255, 255, 255, 255, 255, 255, 128, 0}
	for _, x := range []struct {
		name  string
		data  []byte
		read  func(c *wire.Cursor)
		fault api.Errno
	}{
		{"Byte at the end", nil, func(c *wire.Cursor) { readsByte(t, c, 0, api.ErrEnd) }, api.ErrEnd},
		{"Number at the end", nil, func(c *wire.Cursor) { readsNumber(t, c, 9, 0, api.ErrEnd) }, api.ErrEnd},
		{"Number cut", []byte{128}, func(c *wire.Cursor) { readsNumber(t, c, 9, 0, api.ErrEnd) }, api.ErrEnd},
		{"Number long", long, func(c *wire.Cursor) { readsNumber(t, c, 9, 0, api.ErrLong) }, api.ErrLong},
		{"Number above", []byte{10, 3}, func(c *wire.Cursor) { readsNumber(t, c, 9, 0, api.ErrRange) }, api.ErrRange},
		{"Text at the end", nil, func(c *wire.Cursor) { readsText(t, c, 0, 9, "", api.ErrEnd) }, api.ErrEnd},
		{"Text long", long, func(c *wire.Cursor) { readsText(t, c, 0, 9, "", api.ErrLong) }, api.ErrLong},
		{"Text above", []byte{2, 3, 4}, func(c *wire.Cursor) { readsText(t, c, 0, 1, "", api.ErrRange) }, api.ErrRange},
		{"Text cut", []byte{2, 3}, func(c *wire.Cursor) { readsText(t, c, 0, 9, "", api.ErrEnd) }, api.ErrEnd},
		{"Take below 0", []byte{2, 3}, func(c *wire.Cursor) { takes(t, c, -1, nil, api.ErrRange) }, api.ErrRange},
		{"Take too much", []byte{2, 3}, func(c *wire.Cursor) { takes(t, c, 3, nil, api.ErrEnd) }, api.ErrEnd},
	} {
		t.Log(x.name)
		c := wire.Open(x.data)
		x.read(c)
		refuses(t, c, 0, len(x.data), x.fault)

		behind := wire.Open(append([]byte{5, 6}, x.data...))
		takes(t, behind, 2, []byte{5, 6}, api.OK)
		x.read(behind)
		refuses(t, behind, 2, len(x.data), x.fault)
	}
}

// P5.4: every byte is a byte, and none is ErrEnd.
func TestByte(t *testing.T) {
	all := make([]byte, 256)
	for i := range all {
		all[i] = byte(i)
	}
	c := wire.Open(all)
	for i := range all {
		stands(t, c, i, 256-i, api.OK)
		readsByte(t, c, byte(i), api.OK)
	}
	readsByte(t, c, 0, api.ErrEnd)
	refuses(t, c, 256, 0, api.ErrEnd)
}

// P5.4: a number passes up to its most, and is cut off at each byte but the last.
func TestNumber(t *testing.T) {
	for _, f := range forms() {
		size := len(f.bytes)
		for _, most := range []int{f.n, f.n + 1, api.MaxNumber, math.MaxInt} {
			c := wire.Open(append(bytes.Clone(f.bytes), 0))
			readsNumber(t, c, most, f.n, api.OK)
			stands(t, c, size, 1, api.OK)
		}
		for _, most := range []int{f.n - 1, -1, math.MinInt} {
			c := wire.Open(f.bytes)
			readsNumber(t, c, most, 0, api.ErrRange)
			stands(t, c, 0, size, api.ErrRange)
		}
		for cut := range f.bytes {
			c := wire.Open(f.bytes[:cut])
			readsNumber(t, c, api.MaxNumber, 0, api.ErrEnd)
			stands(t, c, 0, cut, api.ErrEnd)
		}
	}
}

// P5.4: an eighth byte of 128 or more, a last byte of 0 that isn't the first;
// neither hangs on the most, and a number that is cut off is ErrEnd whatever it began with.
func TestNumberFaults(t *testing.T) {
	for _, x := range []struct {
		data  []byte
		fault api.Errno
	}{
		{[]byte{128, 0}, api.ErrLong},
		{[]byte{255, 0}, api.ErrLong},
		{[]byte{129, 128, 0}, api.ErrLong},
		{[]byte{128, 128, 128, 128, 128, 128, 0}, api.ErrLong},
		{[]byte{255, 255, 255, 255, 255, 255, 255, 0}, api.ErrLong},
		{[]byte{128, 128, 128, 128, 128, 128, 128, 128}, api.ErrLong},
		{[]byte{128, 128, 128, 128, 128, 128, 128, 128, 1}, api.ErrLong},
		{[]byte{255, 255, 255, 255, 255, 255, 255, 255, 255, 255}, api.ErrLong},
		{[]byte{128}, api.ErrEnd},
		{[]byte{128, 128, 128, 128, 128, 128, 128}, api.ErrEnd},
		{[]byte{255, 255, 255, 255, 255, 255, 255}, api.ErrEnd},
	} {
		for _, most := range []int{api.MaxNumber, math.MaxInt, 9, 0, -1, math.MinInt} {
			c := wire.Open(x.data)
			readsNumber(t, c, most, 0, x.fault)
			stands(t, c, 0, len(x.data), x.fault)
		}
	}
}

// P5.5: a text's bounds are both within it, and ErrRange comes ahead of the ErrEnd of its bytes.
func TestTextBounds(t *testing.T) {
	for _, x := range []struct {
		data        []byte
		least, most int
		text        string
		fault       api.Errno
	}{
		{[]byte{2, 97, 98, 99}, 2, 2, "ab", api.OK},
		{[]byte{2, 97, 98}, 0, 2, "ab", api.OK},
		{[]byte{2, 97, 98}, 2, math.MaxInt, "ab", api.OK},
		{[]byte{2, 97, 98}, math.MinInt, math.MaxInt, "ab", api.OK},
		{[]byte{0}, 0, 0, "", api.OK},
		{[]byte{0}, -5, 0, "", api.OK},
		{[]byte{2, 97, 98}, 3, 9, "", api.ErrRange},
		{[]byte{2, 97, 98}, 0, 1, "", api.ErrRange},
		{[]byte{2, 97, 98}, 3, 1, "", api.ErrRange},
		{[]byte{0}, 1, 9, "", api.ErrRange},
		{[]byte{0}, -9, -1, "", api.ErrRange},
		{[]byte{0}, math.MinInt, math.MinInt, "", api.ErrRange},
		{[]byte{5, 97}, 0, 4, "", api.ErrRange},
		{[]byte{5, 97}, 6, 9, "", api.ErrRange},
		{[]byte{5, 97}, 5, 5, "", api.ErrEnd},
		{[]byte{3, 97, 98}, 0, 9, "", api.ErrEnd},
		{[]byte{1}, 0, 9, "", api.ErrEnd},
		{nil, 1, 0, "", api.ErrEnd},
		{[]byte{129}, 1, 0, "", api.ErrEnd},
		{[]byte{130, 0, 97, 98}, 2, 2, "", api.ErrLong},
		{[]byte{130, 0, 97, 98}, 1, 0, "", api.ErrLong},
		{[]byte{255, 255, 255, 255, 255, 255, 255, 255}, 0, 9, "", api.ErrLong},
		{[]byte{255, 255, 255, 255, 255, 255, 255, 127, 97}, 0, math.MaxInt, "", api.ErrEnd},
		{[]byte{255, 255, 255, 255, 255, 255, 255, 127, 97}, 0, api.MaxNumber - 1, "", api.ErrRange},
	} {
		c := wire.Open(x.data)
		readsText(t, c, x.least, x.most, x.text, x.fault)
		offset := 0
		if x.fault == api.OK {
			offset = 1 + len(x.text)
		}
		stands(t, c, offset, len(x.data)-offset, x.fault)
	}
}

// P5.5: as many bytes as are asked for, none at all, and all that are left.
func TestTake(t *testing.T) {
	data := []byte{1, 2, 3, 4}
	for n := range 5 {
		c := wire.Open(data)
		takes(t, c, n, data[:n], api.OK)
		stands(t, c, n, 4-n, api.OK)
	}
	for _, n := range []int{5, 6, math.MaxInt} {
		c := wire.Open(data)
		takes(t, c, n, nil, api.ErrEnd)
		refuses(t, c, 0, 4, api.ErrEnd)
	}
	for _, n := range []int{-1, -4, math.MinInt} {
		c := wire.Open(data)
		takes(t, c, n, nil, api.ErrRange)
		refuses(t, c, 0, 4, api.ErrRange)
	}
}

// P5.5 and the rules: what is taken is the caller's own, its spare room too.
func TestTakeIsNew(t *testing.T) {
	data := []byte{1, 2, 3, 4, 5, 6}
	c := wire.Open(data)
	for from := 0; from < 6; from += 2 {
		got, e := c.Take(2)
		if e != api.OK || !bytes.Equal(got, []byte{byte(from + 1), byte(from + 2)}) {
			t.Errorf("the bytes at %d are %v, %d", from, got, e)
		}
		got = got[:cap(got)]
		for i := range got {
			got[i] = 77
		}
	}
	if !bytes.Equal(data, []byte{1, 2, 3, 4, 5, 6}) {
		t.Errorf("the data changed to %v", data)
	}
	none, _ := wire.Open(data).Take(0)
	copy(none[:cap(none)], "xxxxxx")
	if !bytes.Equal(data, []byte{1, 2, 3, 4, 5, 6}) {
		t.Errorf("the data changed to %v", data)
	}
}

// The chapter's examples 2 to 4; those of example 1 are among the forms.
func TestExamples(t *testing.T) {
	c := wire.Open([]byte{172, 2, 5})
	readsNumber(t, c, 1000, 300, api.OK)
	stands(t, c, 2, 1, api.OK)
	readsByte(t, c, 5, api.OK)
	readsByte(t, c, 0, api.ErrEnd)
	stands(t, c, 3, 0, api.ErrEnd)
	readsNumber(t, c, 9, 0, api.ErrEnd)

	c = wire.Open([]byte{128, 0})
	readsNumber(t, c, 9, 0, api.ErrLong)
	stands(t, c, 0, 2, api.ErrLong)
	readsNumber(t, wire.Open([]byte{128}), 9, 0, api.ErrEnd)
	c = wire.Open([]byte{200, 1})
	readsNumber(t, c, 199, 0, api.ErrRange)
	readsNumber(t, c, 200, 0, api.ErrRange)

	c = wire.Open([]byte{3, 97, 98})
	readsText(t, c, 0, 9, "", api.ErrEnd)
	stands(t, c, 0, 3, api.ErrEnd)
	readsText(t, wire.Open([]byte{2, 97, 98}), 3, 9, "", api.ErrRange)
	readsText(t, wire.Open([]byte{2, 97, 98}), 1, 2, "ab", api.OK)
}
