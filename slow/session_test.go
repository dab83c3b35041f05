package slow

import (
	"errors"
	"testing"

	"stepper/api"
	"stepper/fault"
	"stepper/names"
	"stepper/syntax"
)

// tried is a session and the table that its inputs are read with.
type tried struct {
	*Session
	table *names.Table
}

func newTried() tried {
	table := names.NewTable()
	return tried{NewSession(table), table}
}

func (s tried) read(t *testing.T, text string) syntax.Form {
	t.Helper()
	f, err := syntax.Read(text, s.table)
	if err != nil {
		t.Fatal(err)
	}
	return f
}

func TestAnErrorTellsWhatWasAboutToBeDone(t *testing.T) {
	for _, c := range []struct {
		text string
		code api.Errno
		what string
	}{
		{"nowhere", api.ErrUnbound, "looking up nowhere"},
		{"(set! nowhere 1)", api.ErrUnbound, "setting nowhere"},
		{"('(1 a) 2)", api.ErrType, "applying (1 a)"},
		{"(car 1)", api.ErrType, "applying car"},
		{"(+ 1)", api.ErrArity, "applying +"},
		{"(* 1099511627776 2)", api.ErrBig, "applying *"},
		{"((lambda () 1) 2)", api.ErrArity, "applying a procedure"},
		{"(call/cc (lambda (k) (k)))", api.ErrArity, "applying a continuation"},
		{"(call/cc)", api.ErrArity, "applying call/cc"},
		{"((lambda (f) (f f)) (lambda (f) (f f)))", api.ErrFuel, "making a further step"},
	} {
		s := newTried()
		output, text, err := s.Run(s.read(t, c.text), 100)
		var doing fault.Doing
		if !errors.As(err, &doing) || doing.What != c.what || !errors.Is(err, fault.Fault(c.code)) {
			t.Errorf("%s: %v, want error %d while %s", c.text, err, c.code, c.what)
		}
		if output != "" || text != "" {
			t.Errorf("%s: %q and %q beside an error", c.text, output, text)
		}
	}
}

func TestASessionKeepsItsGlobalsAndNoOthers(t *testing.T) {
	first, second := newTried(), newTried()
	if _, _, err := first.Run(first.read(t, "(define car 5)"), 3); err != nil {
		t.Fatal(err)
	}
	if _, text, err := first.Run(first.read(t, "car"), 1); text != "5" || err != nil {
		t.Errorf("in the first session: %q, %v", text, err)
	}
	if _, text, err := second.Run(second.read(t, "car"), 1); text != "#procedure" || err != nil {
		t.Errorf("in the second session: %q, %v", text, err)
	}
}

// A form that is run twice has its quoted data once.
func TestAFormIsReadOnceHoweverOftenItIsRun(t *testing.T) {
	s := newTried()
	quoted := s.read(t, "(set! x (cons '(1) x))")
	for _, f := range []syntax.Form{s.read(t, "(define x '())"), quoted, quoted} {
		if _, _, err := s.Run(f, 99); err != nil {
			t.Fatal(err)
		}
	}
	if _, text, err := s.Run(s.read(t, "(eq? (car x) (car (cdr x)))"), 99); text != "#t" || err != nil {
		t.Errorf("%q, %v", text, err)
	}
}
