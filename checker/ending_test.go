package checker

import (
	"errors"
	"testing"

	"proctor/api"
)

// What a step answers is taken up as an ending or is none, and tells its kind.
func TestEnding(t *testing.T) {
	if err := endingOf(api.OK); err != nil {
		t.Errorf("OK: %v", err)
	}
	for code, want := range map[api.Errno]api.Outcome{
		api.ErrRead:    {Kind: api.OutIO, Code: api.ErrRead},
		api.ErrWrite:   {Kind: api.OutIO, Code: api.ErrWrite},
		api.ErrDown:    {Kind: api.OutCrash},
		api.ErrNoSpace: {Kind: api.OutNoSpace},
		api.ErrState:   {Kind: api.OutState},
	} {
		var end ending
		if !errors.As(endingOf(code), &end) || end.outcome.Kind != want.Kind || end.outcome.Code != want.Code {
			t.Errorf("%d: %+v, want %+v", code, end, want)
		}
	}
	if text := endingOf(api.ErrDown).Error(); text != "the check has ended: crash" {
		t.Error(text)
	}
}
