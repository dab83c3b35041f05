package slow

import (
	"stepper/api"
	"stepper/fault"
	"stepper/spell"
	"stepper/syntax"
	"stepper/value"
)

type procedure struct {
	value.Applicable
	lambda syntax.Lambda
	around *surroundings
}

type continuation struct {
	value.Applicable
	frames *pile
}

func (r *run) apply(v value.Value, arguments []value.Value) error {
	switch f := v.(type) {
	case *procedure:
		return r.applyProcedure(f, arguments)
	case *continuation:
		return r.applyContinuation(f, arguments)
	case value.CallCC:
		return r.applyCallCC(arguments)
	case value.Primitive:
		given, err := f.Apply(arguments, &r.output)
		if err != nil {
			return err
		}
		r.give(given)
		return nil
	}
	return fault.While("applying "+spell.Of(v), api.ErrType)
}

func (r *run) applyProcedure(p *procedure, arguments []value.Value) error {
	if err := value.CheckCount("a procedure", len(p.lambda.Names), arguments); err != nil {
		return err
	}
	r.workOut(p.lambda.Body, &surroundings{names: p.lambda.Names, places: arguments, outer: p.around})
	return nil
}

func (r *run) applyContinuation(c *continuation, arguments []value.Value) error {
	if err := value.CheckCount("a continuation", 1, arguments); err != nil {
		return err
	}
	r.frames = c.frames
	r.give(arguments[0])
	return nil
}

func (r *run) applyCallCC(arguments []value.Value) error {
	if err := value.CheckCount("call/cc", 1, arguments); err != nil {
		return err
	}
	return r.apply(arguments[0], []value.Value{&continuation{frames: r.frames}})
}
