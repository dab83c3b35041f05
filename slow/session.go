// Package slow runs inputs step by step.
package slow

import (
	"stepper/api"
	"stepper/fault"
	"stepper/names"
	"stepper/spell"
	"stepper/syntax"
	"stepper/value"
)

// Session is what one input leaves to the next: the globals, by the numbers of
// their names.
type Session struct{ globals map[int]value.Value }

// NewSession is a session ahead of its first input. The names of its inputs
// have their numbers from this same table.
func NewSession(table *names.Table) *Session {
	return &Session{globals: value.Globals(table)}
}

// Run runs an input with a fuel: its output, and the text of the value with
// which it has ended or the error because of which it has not.
func (s *Session) Run(input syntax.Form, fuel int) (output, text string, err error) {
	r := s.start(input)
	err = r.finish(fuel)
	if err != nil {
		return r.output.String(), "", err
	}
	return r.output.String(), spell.Of(r.given), nil
}

// Trace is the first n states of an input, or all, if there are fewer.
func (s *Session) Trace(input syntax.Form, n int) []api.Line {
	var lines []api.Line
	r := s.start(input)
	for len(lines) < n {
		lines = append(lines, r.line())
		if r.ended() || r.step() != nil {
			break
		}
	}
	return lines
}

// run is an input that is being run.
type run struct {
	*Session
	state
	output value.Output
}

func (s *Session) start(input syntax.Form) *run {
	return &run{Session: s, state: state{form: input}}
}

func (r *run) finish(fuel int) error {
	for range fuel {
		if err := r.step(); err != nil {
			return err
		}
		if r.ended() {
			return nil
		}
	}
	return fault.While("making a further step", api.ErrFuel)
}

func (r *run) step() error {
	if r.form != nil {
		return r.workOutForm()
	}
	waiting := r.frames.top
	r.frames = r.frames.below
	return waiting.take(r, r.given)
}
