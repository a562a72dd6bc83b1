package extsort

import (
	"proctor/api"
	"proctor/device"
	"proctor/rows"
	"proctor/stream"
	"proctor/wire"
)

// source gives the rows of a run's file.
type source struct {
	from *stream.Reader
}

func open(d *device.Dev, f stream.File) (*source, api.Errno) {
	from, e := stream.OpenFile(d, f)
	if e != api.OK {
		return nil, e
	}
	return &source{from: from}, api.OK
}

// next gives the next row. What can't be read as a row was not written by a
// sorter: somebody else has written into its blocks.
func (s *source) next() (rows.Row, bool, api.Errno) {
	if s.from.Left() == 0 {
		return rows.Row{}, false, api.OK
	}
	size, e := s.size()
	if e != api.OK {
		return rows.Row{}, false, e
	}
	p, e := s.from.Read(size)
	if e != api.OK {
		return rows.Row{}, false, e
	}
	r, used, e := rows.Decode(p)
	if e != api.OK || used != size {
		return rows.Row{}, false, api.ErrRow
	}
	return r, true, api.OK
}

// size reads how many bytes the next row has. A number tells by its bytes alone
// where it ends, so they are asked for one by one.
func (s *source) size() (int, api.Errno) {
	var p []byte
	for s.from.Left() > 0 {
		b, e := s.from.Read(1)
		if e != api.OK {
			return 0, e
		}
		p = append(p, b...)
		n, e := wire.Open(p).Number(api.MaxRead)
		if e == api.OK {
			return n, api.OK
		}
		if e != api.ErrEnd {
			break
		}
	}
	return 0, api.ErrRow
}

// writeRow writes a row in the form that next reads.
func writeRow(w *stream.Writer, r rows.Row) api.Errno {
	body, e := rows.Encode(r)
	if e != api.OK {
		return e
	}
	p, e := wire.Append(nil, len(body))
	if e != api.OK {
		return e
	}
	return w.Write(append(p, body...))
}
