package syntax

import (
	"slices"

	"stepper/api"
	"stepper/datum"
	"stepper/fault"
	"stepper/names"
	"stepper/value"
)

// Read reads a text as an input: one datum that is a form. Its names have
// their numbers from the table.
func Read(text string, table *names.Table) (Form, error) {
	d, err := datum.Read(text)
	if err != nil {
		return nil, err
	}
	r := reader{table}
	if items, ok := d.(datum.List); ok && keywordOf(items) == "define" {
		return r.define(items[1:])
	}
	return r.form(d)
}

type reader struct{ table *names.Table }

// keywordOf is the keyword with which a list begins, or no text.
func keywordOf(items datum.List) datum.Name {
	if len(items) == 0 {
		return ""
	}
	if first, ok := items[0].(datum.Name); ok && isKeyword(first) {
		return first
	}
	return ""
}

func noForm(doing string) error { return fault.While(doing, api.ErrForm) }

func (r reader) form(d datum.Datum) (Form, error) {
	switch d := d.(type) {
	case datum.List:
		return r.list(d)
	case datum.Name:
		name, err := r.name(d)
		if err != nil {
			return nil, err
		}
		return name, nil
	}
	return Constant{Value: value.Of(d)}, nil
}

func (r reader) forms(data []datum.Datum) ([]Form, error) {
	var forms []Form
	for _, d := range data {
		f, err := r.form(d)
		if err != nil {
			return nil, err
		}
		forms = append(forms, f)
	}
	return forms, nil
}

func (r reader) name(d datum.Datum) (Name, error) {
	name, ok := d.(datum.Name)
	if !ok || isKeyword(name) {
		return Name{}, noForm("reading a name")
	}
	return Name{Text: string(name), Number: r.table.Number(string(name))}, nil
}

func (r reader) list(items datum.List) (Form, error) {
	if len(items) == 0 {
		return nil, noForm("reading a list as a form")
	}
	parts := items[1:]
	switch keywordOf(items) {
	case "quote":
		return r.quote(parts)
	case "if":
		return r.ifForm(parts)
	case "begin":
		return r.begin(parts)
	case "set!":
		return r.set(parts)
	case "lambda":
		return r.lambda(parts)
	case "let":
		return r.let(parts)
	case "define":
		return nil, noForm("reading a define inside a form")
	}
	return r.call(items)
}

func (r reader) quote(parts datum.List) (Form, error) {
	if len(parts) != 1 {
		return nil, noForm("reading a quote")
	}
	return Constant{Value: value.Of(parts[0]), Quoted: true}, nil
}

func (r reader) ifForm(parts datum.List) (Form, error) {
	if len(parts) != 3 {
		return nil, noForm("reading an if")
	}
	forms, err := r.forms(parts)
	if err != nil {
		return nil, err
	}
	return If{Test: forms[0], Then: forms[1], Else: forms[2]}, nil
}

func (r reader) begin(parts datum.List) (Form, error) {
	if len(parts) == 0 {
		return nil, noForm("reading a begin")
	}
	forms, err := r.forms(parts)
	if err != nil {
		return nil, err
	}
	return Begin{Forms: forms}, nil
}

func (r reader) set(parts datum.List) (Form, error) {
	name, value, err := r.nameAndForm(parts)
	if err != nil {
		return nil, err
	}
	return Set{Name: name, Value: value}, nil
}

func (r reader) define(parts datum.List) (Form, error) {
	name, value, err := r.nameAndForm(parts)
	if err != nil {
		return nil, err
	}
	return Define{Name: name, Value: value}, nil
}

func (r reader) nameAndForm(parts datum.List) (Name, Form, error) {
	if len(parts) != 2 {
		return Name{}, nil, noForm("reading a name and a form")
	}
	name, err := r.name(parts[0])
	if err != nil {
		return Name{}, nil, err
	}
	value, err := r.form(parts[1])
	if err != nil {
		return Name{}, nil, err
	}
	return name, value, nil
}

func (r reader) lambda(parts datum.List) (Form, error) {
	if len(parts) != 2 {
		return nil, noForm("reading a lambda")
	}
	bound, err := r.names(parts[0])
	if err != nil {
		return nil, err
	}
	body, err := r.form(parts[1])
	if err != nil {
		return nil, err
	}
	return Lambda{Names: bound, Body: body}, nil
}

func (r reader) names(d datum.Datum) ([]Name, error) {
	items, ok := d.(datum.List)
	if !ok {
		return nil, noForm("reading the names of a lambda")
	}
	var bound []Name
	for _, item := range items {
		name, err := r.name(item)
		if err != nil {
			return nil, err
		}
		if slices.Contains(bound, name) {
			return nil, noForm("reading a name for the second time")
		}
		bound = append(bound, name)
	}
	return bound, nil
}

// readLet writes the let out as the datum that it is the same as, so that
// what holds for that one holds for it.
func (r reader) let(parts datum.List) (Form, error) {
	if len(parts) != 2 {
		return nil, noForm("reading a let")
	}
	bindings, ok := parts[0].(datum.List)
	if !ok {
		return nil, noForm("reading the bindings of a let")
	}
	bound, values := datum.List{}, datum.List{}
	for _, d := range bindings {
		binding, ok := d.(datum.List)
		if !ok || len(binding) != 2 {
			return nil, noForm("reading a binding of a let")
		}
		bound = append(bound, binding[0])
		values = append(values, binding[1])
	}
	lambda := datum.List{datum.Name("lambda"), bound, parts[1]}
	return r.call(append(datum.List{lambda}, values...))
}

func (r reader) call(items datum.List) (Form, error) {
	forms, err := r.forms(items)
	if err != nil {
		return nil, err
	}
	return Call{Forms: forms}, nil
}
