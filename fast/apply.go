package fast

import (
	"stepper/api"
	"stepper/fault"
	"stepper/spell"
	"stepper/value"
)

type procedure struct {
	value.Applicable
	names  int
	body   code
	around *places
}

type continuation struct {
	value.Applicable
	frames *pile
}

type application struct {
	applied   value.Value
	arguments []value.Value
}

// apply applies a primitive at once. Whatever else it is comes next, when all
// frames are on the pile.
func (m *machine) apply(applied value.Value, arguments []value.Value) (value.Value, error) {
	if p, ok := applied.(value.Primitive); ok {
		return m.primitive(p, arguments...)
	}
	m.next = application{applied: applied, arguments: arguments}
	return nil, nil
}

// primitive leaves off here if the fuel is spent, so that nothing is displayed
// beyond it.
func (m *machine) primitive(p value.Primitive, arguments ...value.Value) (value.Value, error) {
	if m.steps > m.fuel {
		return nil, spent()
	}
	return p.Apply(arguments, &m.output)
}

func (m *machine) applyNext(a application) (value.Value, error) {
	switch f := a.applied.(type) {
	case *procedure:
		if err := value.CheckCount("a procedure", f.names, a.arguments); err != nil {
			return nil, err
		}
		return f.body(m, &places{values: a.arguments, outer: f.around})
	case *continuation:
		if err := value.CheckCount("a continuation", 1, a.arguments); err != nil {
			return nil, err
		}
		m.frames = f.frames
		return a.arguments[0], nil
	case value.CallCC:
		if err := value.CheckCount("call/cc", 1, a.arguments); err != nil {
			return nil, err
		}
		kept := &continuation{frames: m.frames}
		return m.applyNext(application{applied: a.arguments[0], arguments: []value.Value{kept}})
	case value.Primitive:
		return m.primitive(f, a.arguments...)
	}
	return nil, fault.While("applying "+spell.Of(a.applied), api.ErrType)
}
