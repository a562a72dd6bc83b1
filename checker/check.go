package checker

import (
	"errors"

	"proctor/api"
	"proctor/config"
	"proctor/device"
	"proctor/extent"
	"proctor/extsort"
	"proctor/halt"
	"proctor/logfile"
	"proctor/rows"
	"proctor/rules"
	"proctor/stream"
	"proctor/sweep"
	"proctor/viol"
)

// check is a check under way: what it was given, and what its steps hand on.
type check struct {
	config           api.Config
	dev              *device.Dev
	stop             *halt.Stop // nil: none
	txns             int
	broken           *viol.Top // the rules that the log breaks
	events, sessions sorting
	sweep            *sweep.Sweep
}

// sorting is a sort on its two sides.
type sorting struct {
	in  *extsort.Sorter
	out *extsort.Result // nil until the sort is finished
}

// run takes one step after another until one ends the check.
func (k *check) run() api.Outcome {
	for _, step := range []func() error{k.begin, k.read, k.sort, k.replay, k.walk} {
		var end ending
		if errors.As(step(), &end) {
			return end.outcome
		}
	}
	return k.verdict()
}

// begin makes what the later steps use: of a config that is right nothing is refused.
func (k *check) begin() error {
	if e := config.Check(k.config); e != api.OK {
		return ending{api.Outcome{Kind: api.OutConfig, Code: e}}
	}
	space, _ := extent.New(k.dev.Geometry().Scratch)
	k.events.in = k.sorter(space, rows.ByTime)
	k.sessions.in = k.sorter(space, rows.BySession)
	k.sweep, _ = sweep.New(k.config.State)
	k.broken, _ = viol.New(k.config.Limit)
	return nil
}

// sorter makes one of the two sorts, which share the budget.
func (k *check) sorter(space *extent.Space, order int) *extsort.Sorter {
	plan := extsort.Plan{Order: order, Budget: k.config.Budget / 2, Fan: k.config.Fan}
	x, _ := extsort.New(k.dev, space, plan)
	return x
}

// read takes the transactions out of the input, and feeds the scanner with the
// next block where it waits for more.
func (k *check) read() error {
	log, from := logfile.NewScanner(), stream.Input(k.dev)
	for !log.Finished() {
		place := log.Count()
		t, ok, e := log.Next()
		if e != api.OK {
			return ending{api.Outcome{Kind: api.OutMalformed, Code: e, Offset: log.Offset()}}
		}
		var err error
		if ok {
			err = k.take(place, t)
		} else {
			err = k.feed(log, from)
		}
		if err != nil {
			return err
		}
	}
	k.txns = log.Count()
	return nil
}

// feed gives the scanner a block and no more, so that only a transaction that
// isn't there whole is held with it.
func (k *check) feed(log *logfile.Scanner, from *stream.Reader) error {
	p, e := from.Read(k.dev.Geometry().Block)
	if e != api.OK {
		return endingOf(e)
	}
	if len(p) == 0 {
		log.End()
	} else {
		log.Feed(p)
	}
	return nil
}

// take judges a transaction by itself, and sends its rows to the sorts. As the
// scanner answers right transactions alone, neither call of rules refuses it.
func (k *check) take(place int, t api.Txn) error {
	if err := k.beat(); err != nil {
		return err
	}
	list, _ := rules.Shape(place, t, k.config.Eps)
	k.tell(list)
	all, _ := rules.Rows(place, t)
	for _, r := range all {
		into := k.events.in
		if r.Kind == rows.RowSession {
			into = k.sessions.in
		}
		if e := into.Add(r); e != api.OK {
			return endingOf(e)
		}
	}
	return nil
}

// sort finishes both sorts.
func (k *check) sort() error {
	if err := k.events.finish(); err != nil {
		return err
	}
	return k.sessions.finish()
}

func (s *sorting) finish() error {
	out, e := s.in.Finish()
	s.out = out
	return endingOf(e)
}

// replay goes through the starts and ends.
func (k *check) replay() error { return k.each(k.events.out, k.sweep.Take) }

// walk goes through the transactions of each session.
func (k *check) walk() error { return k.each(k.sessions.out, rules.NewWalk().Take) }

// each lets the rows of a sort be judged one by one.
func (k *check) each(sorted *extsort.Result, judge func(rows.Row) ([]api.Viol, api.Errno)) error {
	for {
		r, ok, e := sorted.Next()
		if e != api.OK {
			return endingOf(e)
		}
		if !ok {
			sorted.Close()
			return nil
		}
		if err := k.beat(); err != nil {
			return err
		}
		list, e := judge(r)
		if e != api.OK {
			return endingOf(e)
		}
		k.tell(list)
	}
}

// beat asks the stop ahead of a transaction or a row.
func (k *check) beat() error {
	if k.stop != nil && !k.stop.Beat() {
		return ending{api.Outcome{Kind: api.OutCancelled}}
	}
	return nil
}

// tell puts violations to those that were found; the rules tell right ones alone.
func (k *check) tell(list []api.Viol) {
	for _, v := range list {
		k.broken.Put(v)
	}
}

// verdict is the outcome of a check that no step has ended.
func (k *check) verdict() api.Outcome {
	if k.broken.Total() == 0 {
		return api.Outcome{Kind: api.OutAccept, Txns: k.txns}
	}
	return api.Outcome{Kind: api.OutReject, Txns: k.txns, Total: k.broken.Total(), List: k.broken.List()}
}

func (k *check) usage() Usage {
	return Usage{Events: k.events.in.Stats(), Sessions: k.sessions.in.Stats(), State: k.sweep.Most()}
}
