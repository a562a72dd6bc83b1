package checker

import (
	"proctor/api"
	"proctor/report"
)

// ending is the error of a step that ends the check, with the outcome.
type ending struct {
	outcome api.Outcome
}

func (e ending) Error() string { return "the check has ended: " + report.Kind(e.outcome.Kind) }

// endingOf tells how a check ends by what a sort, the input or the sweep refuses;
// at OK it goes on. The rows and the config are right, so that a device that
// fails, a lack of room and the limit of the state are all that there can be.
func endingOf(e api.Errno) error {
	switch e {
	case api.OK:
		return nil
	case api.ErrDown:
		return ending{api.Outcome{Kind: api.OutCrash}}
	case api.ErrNoSpace:
		return ending{api.Outcome{Kind: api.OutNoSpace}}
	case api.ErrState:
		return ending{api.Outcome{Kind: api.OutState}}
	}
	return ending{api.Outcome{Kind: api.OutIO, Code: e}}
}
