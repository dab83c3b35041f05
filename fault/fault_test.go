package fault

import (
	"errors"
	"testing"

	"stepper/api"
)

func TestCodeFindsTheFaultHoweverDeepItIsWrapped(t *testing.T) {
	once := While("reading a number", api.ErrNumber)
	twice := Doing{What: "reading an input", Cause: once}
	for _, c := range []struct {
		err  error
		want api.Errno
	}{
		{nil, api.OK},
		{Fault(api.ErrBig), api.ErrBig},
		{once, api.ErrNumber},
		{twice, api.ErrNumber},
	} {
		if got := Code(c.err); got != c.want {
			t.Errorf("Code(%v) = %d, want %d", c.err, got, c.want)
		}
	}
}

func TestErrorsIsAndAsFindWhatItIs(t *testing.T) {
	err := While("reading a number", api.ErrNumber)
	if !errors.Is(err, Fault(api.ErrNumber)) {
		t.Errorf("errors.Is does not find ErrNumber in %v", err)
	}
	if errors.Is(err, Fault(api.ErrText)) {
		t.Errorf("errors.Is finds ErrText in %v", err)
	}
	var doing Doing
	if !errors.As(err, &doing) || doing.What != "reading a number" {
		t.Errorf("errors.As does not find what was about to be done in %v", err)
	}
}

func TestErrorTellsWhatWasDoneAndWhatWentWrong(t *testing.T) {
	if got := While("reading a number", api.ErrNumber).Error(); got != "reading a number: error 4" {
		t.Errorf("Error() = %q", got)
	}
}
