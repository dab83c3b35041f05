package syntax

import (
	"slices"

	"stepper/api"
	"stepper/datum"
	"stepper/fault"
	"stepper/value"
)

// Read reads a text as an input: one datum that is a form.
func Read(text string) (Form, error) {
	d, err := datum.Read(text)
	if err != nil {
		return nil, err
	}
	if items, ok := d.(datum.List); ok && keywordOf(items) == "define" {
		return readDefine(items[1:])
	}
	return readForm(d)
}

// keywordOf is the keyword with which a list begins, or no text.
func keywordOf(items datum.List) datum.Name {
	if len(items) == 0 {
		return ""
	}
	if first, ok := items[0].(datum.Name); ok && isKeyword(first) {
		return first
	}
	return ""
}

func noForm(doing string) error { return fault.While(doing, api.ErrForm) }

func readForm(d datum.Datum) (Form, error) {
	switch d := d.(type) {
	case datum.List:
		return readList(d)
	case datum.Name:
		name, err := readName(d)
		if err != nil {
			return nil, err
		}
		return name, nil
	}
	return Constant{Value: value.Of(d)}, nil
}

func readForms(data []datum.Datum) ([]Form, error) {
	var forms []Form
	for _, d := range data {
		f, err := readForm(d)
		if err != nil {
			return nil, err
		}
		forms = append(forms, f)
	}
	return forms, nil
}

func readName(d datum.Datum) (Name, error) {
	name, ok := d.(datum.Name)
	if !ok || isKeyword(name) {
		return "", noForm("reading a name")
	}
	return Name(name), nil
}

func readList(items datum.List) (Form, error) {
	if len(items) == 0 {
		return nil, noForm("reading a list as a form")
	}
	parts := items[1:]
	switch keywordOf(items) {
	case "quote":
		return readQuote(parts)
	case "if":
		return readIf(parts)
	case "begin":
		return readBegin(parts)
	case "set!":
		return readSet(parts)
	case "lambda":
		return readLambda(parts)
	case "let":
		return readLet(parts)
	case "define":
		return nil, noForm("reading a define inside a form")
	}
	return readCall(items)
}

func readQuote(parts datum.List) (Form, error) {
	if len(parts) != 1 {
		return nil, noForm("reading a quote")
	}
	return Constant{Value: value.Of(parts[0]), Quoted: true}, nil
}

func readIf(parts datum.List) (Form, error) {
	if len(parts) != 3 {
		return nil, noForm("reading an if")
	}
	forms, err := readForms(parts)
	if err != nil {
		return nil, err
	}
	return If{Test: forms[0], Then: forms[1], Else: forms[2]}, nil
}

func readBegin(parts datum.List) (Form, error) {
	if len(parts) == 0 {
		return nil, noForm("reading a begin")
	}
	forms, err := readForms(parts)
	if err != nil {
		return nil, err
	}
	return Begin{Forms: forms}, nil
}

func readSet(parts datum.List) (Form, error) {
	name, value, err := readNameAndForm(parts)
	if err != nil {
		return nil, err
	}
	return Set{Name: name, Value: value}, nil
}

func readDefine(parts datum.List) (Form, error) {
	name, value, err := readNameAndForm(parts)
	if err != nil {
		return nil, err
	}
	return Define{Name: name, Value: value}, nil
}

func readNameAndForm(parts datum.List) (Name, Form, error) {
	if len(parts) != 2 {
		return "", nil, noForm("reading a name and a form")
	}
	name, err := readName(parts[0])
	if err != nil {
		return "", nil, err
	}
	value, err := readForm(parts[1])
	if err != nil {
		return "", nil, err
	}
	return name, value, nil
}

func readLambda(parts datum.List) (Form, error) {
	if len(parts) != 2 {
		return nil, noForm("reading a lambda")
	}
	names, err := readNames(parts[0])
	if err != nil {
		return nil, err
	}
	body, err := readForm(parts[1])
	if err != nil {
		return nil, err
	}
	return Lambda{Names: names, Body: body}, nil
}

func readNames(d datum.Datum) ([]Name, error) {
	items, ok := d.(datum.List)
	if !ok {
		return nil, noForm("reading the names of a lambda")
	}
	var names []Name
	for _, item := range items {
		name, err := readName(item)
		if err != nil {
			return nil, err
		}
		if slices.Contains(names, name) {
			return nil, noForm("reading a name for the second time")
		}
		names = append(names, name)
	}
	return names, nil
}

// readLet writes the let out as the datum that it is the same as, so that
// what holds for that one holds for it.
func readLet(parts datum.List) (Form, error) {
	if len(parts) != 2 {
		return nil, noForm("reading a let")
	}
	bindings, ok := parts[0].(datum.List)
	if !ok {
		return nil, noForm("reading the bindings of a let")
	}
	names, values := datum.List{}, datum.List{}
	for _, d := range bindings {
		binding, ok := d.(datum.List)
		if !ok || len(binding) != 2 {
			return nil, noForm("reading a binding of a let")
		}
		names = append(names, binding[0])
		values = append(values, binding[1])
	}
	lambda := datum.List{datum.Name("lambda"), names, parts[1]}
	return readCall(append(datum.List{lambda}, values...))
}

func readCall(items datum.List) (Form, error) {
	forms, err := readForms(items)
	if err != nil {
		return nil, err
	}
	return Call{Forms: forms}, nil
}
