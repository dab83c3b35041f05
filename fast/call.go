package fast

import (
	"slices"

	"stepper/syntax"
	"stepper/value"
)

// stepsToKnow are those of a call until what it applies is known: its own, the
// one that works this out, and the one that takes it.
const stepsToKnow = 3

func (s *Session) call(f syntax.Call, around *scope) code {
	arguments := s.codes(f.Forms[1:], around)
	switch applied := f.Forms[0].(type) {
	case syntax.Lambda:
		return callOfLambda(len(applied.Names), s.body(applied, around), arguments)
	case syntax.Name:
		if _, _, ok := around.find(applied); !ok {
			return s.callOfGlobal(applied, arguments)
		}
	}
	return callOfAny(s.code(f.Forms[0], around), arguments)
}

func callOfAny(applied code, arguments []code) code {
	parts := slices.Concat([]code{applied}, arguments)
	apply := func(m *machine, _ *places, values []value.Value) (value.Value, error) {
		return m.apply(values[0], values[1:])
	}
	return func(m *machine, here *places) (value.Value, error) {
		m.steps++
		return m.gather(parts, here, make([]value.Value, 0, len(parts)), apply)
	}
}

// callOfLambda makes no procedure, as nobody could ever have it: the body is
// part of the same form.
func callOfLambda(names int, body code, arguments []code) code {
	enter := func(m *machine, here *places, values []value.Value) (value.Value, error) {
		if err := value.CheckCount("a procedure", names, values); err != nil {
			return nil, err
		}
		return body(m, &places{values: values, outer: here})
	}
	return func(m *machine, here *places) (value.Value, error) {
		m.steps += stepsToKnow
		return m.gather(arguments, here, make([]value.Value, 0, len(arguments)), enter)
	}
}

// callOfGlobal takes for granted what the global is, and is made anew when
// something has defined it anew.
func (s *Session) callOfGlobal(name syntax.Name, arguments []code) code {
	g := s.global(name)
	otherwise := callOfAny(s.name(name, nil), arguments)
	made, seen := callOfKnown(g.value, arguments, otherwise), g.changes
	return func(m *machine, here *places) (value.Value, error) {
		if seen != g.changes {
			made, seen = callOfKnown(g.value, arguments, otherwise), g.changes
		}
		return made(m, here)
	}
}

func callOfKnown(applied value.Value, arguments []code, otherwise code) code {
	if p, ok := applied.(value.Primitive); ok {
		switch len(arguments) {
		case 1:
			return callOfOne(p, arguments[0])
		case 2:
			return callOfTwo(p, arguments[0], arguments[1])
		}
	}
	return otherwise
}

func callOfOne(p value.Primitive, argument code) code {
	return handing(stepsToKnow, argument, func(m *machine, _ *places, v value.Value) (value.Value, error) {
		return m.primitive(p, v)
	})
}

func callOfTwo(p value.Primitive, first, second code) code {
	return handing(stepsToKnow, first, func(m *machine, here *places, v value.Value) (value.Value, error) {
		w, err := second(m, here)
		if w == nil {
			return m.wait(err, func(m *machine, w value.Value) (value.Value, error) {
				return m.primitive(p, v, w)
			})
		}
		m.steps++
		return m.primitive(p, v, w)
	})
}

// gather works out those parts that have no value yet, and takes all values.
func (m *machine) gather(parts []code, here *places, values []value.Value, take takingAll) (value.Value, error) {
	for len(values) < len(parts) {
		v, err := parts[len(values)](m, here)
		if v == nil {
			// Clipped, so that each time the frame is entered the values are
			// copied.
			given := slices.Clip(values)
			return m.wait(err, func(m *machine, v value.Value) (value.Value, error) {
				return m.gather(parts, here, append(given, v), take)
			})
		}
		m.steps++
		values = append(values, v)
	}
	return take(m, here, values)
}
