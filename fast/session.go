// Package fast makes closures of inputs and runs these.
package fast

import (
	"stepper/names"
	"stepper/spell"
	"stepper/syntax"
	"stepper/value"
)

// Session is what one input leaves to the next: the globals, by the numbers of
// their names.
type Session struct{ globals map[int]*global }

// NewSession is a session ahead of its first input. The names of its inputs
// have their numbers from this same table.
func NewSession(table *names.Table) *Session {
	s := &Session{globals: map[int]*global{}}
	for number, v := range value.Globals(table) {
		s.globals[number] = &global{value: v}
	}
	return s
}

// Run runs an input with a fuel: its output, and the text of the value with
// which it has ended or the error because of which it has not.
func (s *Session) Run(input syntax.Form, fuel int) (output, text string, err error) {
	m := machine{fuel: fuel}
	v, err := m.run(s.code(input, nil))
	if err != nil {
		return m.output.String(), "", err
	}
	return m.output.String(), spell.Of(v), nil
}

// global is the place of a global. Code that has found it once keeps it,
// whether there is a value in it by then or not.
type global struct {
	value   value.Value
	changes int
}

func (g *global) set(v value.Value) {
	g.value = v
	g.changes++
}

func (s *Session) global(name syntax.Name) *global {
	g, ok := s.globals[name.Number]
	if !ok {
		g = &global{}
		s.globals[name.Number] = g
	}
	return g
}
