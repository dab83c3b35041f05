package slow

import (
	"stepper/api"
	"stepper/fault"
	"stepper/syntax"
	"stepper/value"
)

// workOutForm makes the step of a form that is to be worked out.
func (r *run) workOutForm() error {
	around := r.around
	switch f := r.form.(type) {
	case syntax.Constant:
		r.give(f.Value)
	case syntax.Name:
		return r.lookUp(f)
	case syntax.Lambda:
		r.give(&procedure{lambda: f, around: around})
	case syntax.If:
		r.push(ifFrame{form: f, around: around})
		r.workOut(f.Test, around)
	case syntax.Set:
		r.push(setFrame{name: f.Name, around: around})
		r.workOut(f.Value, around)
	case syntax.Define:
		r.push(defineFrame{name: f.Name})
		r.workOut(f.Value, around)
	case syntax.Begin:
		r.workOutRow(f.Forms, around)
	case syntax.Call:
		r.push(callFrame{rest: f.Forms[1:], around: around})
		r.workOut(f.Forms[0], around)
	}
	return nil
}

// workOutRow leaves no frame for the last form of a row.
func (r *run) workOutRow(forms []syntax.Form, around *surroundings) {
	if len(forms) > 1 {
		r.push(beginFrame{rest: forms[1:], around: around})
	}
	r.workOut(forms[0], around)
}

func (r *run) lookUp(name syntax.Name) error {
	if place := r.around.place(name); place != nil {
		r.give(*place)
		return nil
	}
	v, ok := r.globals[name.Number]
	if !ok {
		return fault.While("looking up "+name.Text, api.ErrUnbound)
	}
	r.give(v)
	return nil
}

func (r *run) set(name syntax.Name, around *surroundings, v value.Value) error {
	if place := around.place(name); place != nil {
		*place = v
		return nil
	}
	if _, ok := r.globals[name.Number]; !ok {
		return fault.While("setting "+name.Text, api.ErrUnbound)
	}
	r.globals[name.Number] = v
	return nil
}
