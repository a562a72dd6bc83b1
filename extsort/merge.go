package extsort

import (
	"slices"

	"proctor/api"
	"proctor/losers"
	"proctor/stream"
)

// pass merges each Fan runs that follow one another into one. Each run takes
// the place of those it was made of at once, so that x.files lists all blocks
// wherever the pass breaks off.
func (x *Sorter) pass() api.Errno {
	for i := range groups(len(x.files), x.plan.Fan) {
		group := x.files[i:min(i+x.plan.Fan, len(x.files))]
		if len(group) == 1 {
			continue
		}
		merged, e := x.merge(group)
		if e != api.OK {
			return e
		}
		for _, f := range group {
			stream.Drop(x.space, f)
		}
		x.files = slices.Replace(x.files, i, i+len(group), merged)
	}
	return api.OK
}

// merge makes one run of several, whose blocks stay as they are.
func (x *Sorter) merge(group []stream.File) (stream.File, api.Errno) {
	tree, e := losers.New(x.plan.Order, len(group))
	if e != api.OK {
		return stream.File{}, e
	}
	sources := make([]*source, len(group))
	for i, f := range group {
		if sources[i], e = open(x.dev, f); e != api.OK {
			return stream.File{}, e
		}
	}
	return x.write(func(w *stream.Writer) api.Errno {
		return play(tree, sources, w)
	})
}

// play writes the least row of all sources, again and again. Of rows alike the
// tree takes the one of the earlier run, whose rows were added earlier.
func play(tree *losers.Tree, sources []*source, w *stream.Writer) api.Errno {
	for i, s := range sources {
		if e := refill(tree, i, s); e != api.OK {
			return e
		}
	}
	for {
		i, r, e := tree.Win()
		if e == api.ErrDry {
			return api.OK
		}
		if e != api.OK {
			return e
		}
		if e := writeRow(w, r); e != api.OK {
			return e
		}
		if e := refill(tree, i, sources[i]); e != api.OK {
			return e
		}
	}
}

// refill gives the tree the next row of source i, or tells it that there is none.
func refill(tree *losers.Tree, i int, s *source) api.Errno {
	r, ok, e := s.next()
	if e != api.OK {
		return e
	}
	if !ok {
		return tree.Finish(i)
	}
	return tree.Feed(i, r)
}
