package fast

import (
	"stepper/api"
	"stepper/fault"
	"stepper/syntax"
	"stepper/value"
)

// code makes the closure of a form. It adds the steps that the form takes to
// the machine's, each ahead of what is done in it.
func (s *Session) code(f syntax.Form, around *scope) code {
	switch f := f.(type) {
	case syntax.Constant:
		return constant(f.Value)
	case syntax.Name:
		return s.name(f, around)
	case syntax.If:
		return choice(s.code(f.Test, around), s.code(f.Then, around), s.code(f.Else, around))
	case syntax.Begin:
		return row(s.codes(f.Forms, around))
	case syntax.Set:
		return s.set(f, around)
	case syntax.Define:
		return s.define(f, around)
	case syntax.Lambda:
		return s.lambda(f, around)
	case syntax.Call:
		return s.call(f, around)
	}
	return constant(value.Nothing{})
}

func (s *Session) codes(forms []syntax.Form, around *scope) []code {
	codes := make([]code, len(forms))
	for i, f := range forms {
		codes[i] = s.code(f, around)
	}
	return codes
}

func constant(v value.Value) code {
	return func(m *machine, _ *places) (value.Value, error) {
		m.steps++
		return v, nil
	}
}

func (s *Session) name(name syntax.Name, around *scope) code {
	if depth, index, ok := around.find(name); ok {
		return func(m *machine, here *places) (value.Value, error) {
			m.steps++
			return *here.at(depth, index), nil
		}
	}
	g := s.global(name)
	return func(m *machine, _ *places) (value.Value, error) {
		m.steps++
		if g.value == nil {
			return nil, fault.While("looking up "+name.Text, api.ErrUnbound)
		}
		return g.value, nil
	}
}

func (s *Session) lambda(f syntax.Lambda, around *scope) code {
	names, body := len(f.Names), s.body(f, around)
	return func(m *machine, here *places) (value.Value, error) {
		m.steps++
		return &procedure{names: names, body: body, around: here}, nil
	}
}

func (s *Session) body(f syntax.Lambda, around *scope) code {
	return s.code(f.Body, &scope{names: f.Names, outer: around})
}

func choice(test, then, other code) code {
	return handing(1, test, func(m *machine, here *places, v value.Value) (value.Value, error) {
		if v == value.Truth(false) {
			return other(m, here)
		}
		return then(m, here)
	})
}

func (s *Session) set(f syntax.Set, around *scope) code {
	if depth, index, ok := around.find(f.Name); ok {
		return handing(1, s.code(f.Value, around), func(_ *machine, here *places, v value.Value) (value.Value, error) {
			*here.at(depth, index) = v
			return value.Nothing{}, nil
		})
	}
	g := s.global(f.Name)
	return handing(1, s.code(f.Value, around), func(_ *machine, _ *places, v value.Value) (value.Value, error) {
		if g.value == nil {
			return nil, fault.While("setting "+f.Name.Text, api.ErrUnbound)
		}
		g.set(v)
		return value.Nothing{}, nil
	})
}

func (s *Session) define(f syntax.Define, around *scope) code {
	g := s.global(f.Name)
	return handing(1, s.code(f.Value, around), func(_ *machine, _ *places, v value.Value) (value.Value, error) {
		g.set(v)
		return value.Nothing{}, nil
	})
}

// handing is the code of a form that makes so many steps ahead of a part of
// it, and takes the part's value.
func handing(steps int, part code, take taking) code {
	return func(m *machine, here *places) (value.Value, error) {
		m.steps += steps
		v, err := part(m, here)
		if v == nil {
			return m.wait(err, func(m *machine, v value.Value) (value.Value, error) {
				return take(m, here, v)
			})
		}
		m.steps++
		return take(m, here, v)
	}
}

func row(codes []code) code {
	return func(m *machine, here *places) (value.Value, error) {
		m.steps++
		return m.row(codes, here)
	}
}

func (m *machine) row(codes []code, here *places) (value.Value, error) {
	last := len(codes) - 1
	for i, c := range codes[:last] {
		v, err := c(m, here)
		if v == nil {
			return m.wait(err, func(m *machine, _ value.Value) (value.Value, error) {
				return m.row(codes[i+1:], here)
			})
		}
		m.steps++
	}
	return codes[last](m, here)
}
