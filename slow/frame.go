package slow

import (
	"slices"

	"stepper/syntax"
	"stepper/value"
)

// frame waits for a value. It is never changed, as it may take another value
// later, by a continuation that has kept it.
type frame interface {
	take(r *run, v value.Value) error
}

type (
	ifFrame struct {
		form   syntax.If
		around *surroundings
	}

	setFrame struct {
		name   syntax.Name
		around *surroundings
	}

	defineFrame struct{ name syntax.Name }

	beginFrame struct {
		rest   []syntax.Form
		around *surroundings
	}

	callFrame struct {
		values []value.Value
		rest   []syntax.Form
		around *surroundings
	}
)

func (f ifFrame) take(r *run, v value.Value) error {
	if v == value.Truth(false) {
		r.workOut(f.form.Else, f.around)
	} else {
		r.workOut(f.form.Then, f.around)
	}
	return nil
}

func (f setFrame) take(r *run, v value.Value) error {
	if err := r.set(f.name, f.around, v); err != nil {
		return err
	}
	r.give(value.Nothing{})
	return nil
}

func (f defineFrame) take(r *run, v value.Value) error {
	r.globals[f.name.Number] = v
	r.give(value.Nothing{})
	return nil
}

func (f beginFrame) take(r *run, _ value.Value) error {
	r.workOutRow(f.rest, f.around)
	return nil
}

func (f callFrame) take(r *run, v value.Value) error {
	values := slices.Concat(f.values, []value.Value{v})
	if len(f.rest) == 0 {
		return r.apply(values[0], values[1:])
	}
	r.push(callFrame{values: values, rest: f.rest[1:], around: f.around})
	r.workOut(f.rest[0], f.around)
	return nil
}
