package slow

import (
	"stepper/api"
	"stepper/spell"
	"stepper/syntax"
	"stepper/value"
)

// state has a form that is to be worked out in its surroundings or, if it has
// none, a value that is given.
type state struct {
	form   syntax.Form
	around *surroundings
	given  value.Value
	frames *pile
}

func (s *state) workOut(form syntax.Form, around *surroundings) {
	s.form, s.around, s.given = form, around, nil
}

func (s *state) give(v value.Value) {
	s.form, s.around, s.given = nil, nil, v
}

func (s *state) push(f frame) {
	s.frames = &pile{top: f, below: s.frames, height: s.frames.count() + 1}
}

func (s *state) ended() bool { return s.form == nil && s.frames == nil }

func (s *state) line() api.Line {
	if s.form != nil {
		return api.Line{What: api.Work, Text: spell.Of(s.form), Frames: s.frames.count()}
	}
	return api.Line{What: api.Give, Text: spell.Of(s.given), Frames: s.frames.count()}
}

// pile is never changed: continuations keep it and may enter it again and
// again.
type pile struct {
	top    frame
	below  *pile
	height int
}

func (p *pile) count() int {
	if p == nil {
		return 0
	}
	return p.height
}

// surroundings are the places of one procedure's names, and those around them.
type surroundings struct {
	names  []syntax.Name
	places []value.Value
	outer  *surroundings
}

// place is where the innermost one of this name has its value, nil if none has
// that name.
func (s *surroundings) place(name syntax.Name) *value.Value {
	for ; s != nil; s = s.outer {
		for i, n := range s.names {
			if n.Number == name.Number {
				return &s.places[i]
			}
		}
	}
	return nil
}
