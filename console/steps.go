package console

import (
	"proctor/api"
	"proctor/machine"
	"proctor/notation"
)

func (d *desk) build(g given) (string, api.Errno) {
	m, e := machine.New(g.numbers[0], g.numbers[1])
	if e != api.OK {
		return "", e
	}
	d.machine = m
	return say("ok"), api.OK
}

// step makes the command that has the machine do a step of that kind, whose answer is then told.
func step(kind int, told func(machine.Answer) string) func(*desk, given) (string, api.Errno) {
	return func(d *desk, g given) (string, api.Errno) {
		if d.machine == nil {
			return "", api.ErrNone
		}
		a, e := d.machine.Do(machine.Step{
			Kind:    kind,
			Session: g.numbers[0],
			Gap:     g.numbers[1],
			Key:     g.words[0],
			Value:   g.words[1],
		})
		if e != api.OK {
			return "", e
		}
		return told(a), api.OK
	}
}

func plainly(machine.Answer) string { return say("ok") }

func asFound(a machine.Answer) string {
	if !a.Found {
		return say("ok", "-")
	}
	return say("ok", notation.Word(a.Value))
}

// asEnded tells how a commit ended: the machine may have aborted the transaction.
func asEnded(a machine.Answer) string {
	if a.Status == api.Committed {
		return say("ok", "commit")
	}
	return say("ok", "abort")
}

func (d *desk) emit(given) (string, api.Errno) {
	if d.machine == nil {
		return "", api.ErrNone
	}
	d.list = d.machine.Log()
	return done(len(d.list)), api.OK
}
