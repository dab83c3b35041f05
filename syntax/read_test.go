package syntax

import (
	"errors"
	"reflect"
	"strings"
	"testing"

	"stepper/api"
	"stepper/fault"
	"stepper/names"
	"stepper/value"
)

var one, two, three = Constant{Value: value.Number(1)}, Constant{Value: value.Number(2)}, Constant{Value: value.Number(3)}

func read(text string) (Form, error) { return Read(text, names.NewTable()) }

func quoted(v value.Value) Constant { return Constant{Value: v, Quoted: true} }

func TestReadMakesTheForm(t *testing.T) {
	for _, c := range []struct {
		text string
		want Form
	}{
		{"1", one},
		{"#f", Constant{Value: value.Truth(false)}},
		{"'1", quoted(value.Number(1))},
		{"(quote (if))", quoted(&value.Pair{First: value.Name("if"), Rest: value.Empty{}})},
		{"x", Name{"x", 0}},
		{"(if 1 2 3)", If{one, two, three}},
		{"(begin 1)", Begin{[]Form{one}}},
		{"(begin 1 2)", Begin{[]Form{one, two}}},
		{"(set! x 1)", Set{Name{"x", 0}, one}},
		{"(define x 1)", Define{Name{"x", 0}, one}},
		{"(lambda () 1)", Lambda{nil, one}},
		{"(lambda (x y) y)", Lambda{[]Name{{"x", 0}, {"y", 1}}, Name{"y", 1}}},
		{"(f)", Call{[]Form{Name{"f", 0}}}},
		{"(1 2 3)", Call{[]Form{one, two, three}}},
		{"('f x)", Call{[]Form{quoted(value.Name("f")), Name{"x", 0}}}},
	} {
		got, err := read(c.text)
		if err != nil || !reflect.DeepEqual(got, c.want) {
			t.Errorf("Read(%q) = %#v, %v, want %#v", c.text, got, err, c.want)
		}
	}
}

func TestALetIsTheCallThatItIsTheSameAs(t *testing.T) {
	for _, c := range []struct{ let, call string }{
		{"(let () 1)", "((lambda () 1))"},
		{"(let ((x 1)) x)", "((lambda (x) x) 1)"},
		{"(let ((x 1) (y x)) (f x y))", "((lambda (x y) (f x y)) 1 x)"},
		{"(let ((x (let ((y 1)) y))) (let () x))", "((lambda (x) ((lambda () x))) ((lambda (y) y) 1))"},
	} {
		let, err := read(c.let)
		if err != nil {
			t.Errorf("Read(%q): %v", c.let, err)
			continue
		}
		call, err := read(c.call)
		if err != nil || !reflect.DeepEqual(let, call) {
			t.Errorf("Read(%q) = %#v, want %#v", c.let, let, call)
		}
	}
}

func TestANameHasItsNumberFromTheTable(t *testing.T) {
	table := names.NewTable()
	for range 2 {
		for i, text := range []string{"x", "y", "z"} {
			if got, err := Read(text, table); err != nil || got != (Name{Text: text, Number: i}) {
				t.Errorf("Read(%q) = %#v, %v, want number %d", text, got, err, i)
			}
		}
	}
}

// Each place in which a form or a name is asked for, given a name that is no
// keyword, is a form; given a keyword it is none.
func TestAKeywordStandsOnlyAtTheHead(t *testing.T) {
	places := []string{
		"_", "(f _)", "(f x _)", "((_) x)", "(_)",
		"(if _ 1 2)", "(if 1 _ 2)", "(if 1 2 _)",
		"(begin _)", "(begin 1 _)", "(begin _ 1)",
		"(set! _ 1)", "(set! x _)", "(define _ 1)", "(define x _)",
		"(lambda (_) 1)", "(lambda (x _) 1)", "(lambda (x) _)",
		"(let ((_ 1)) 1)", "(let ((x _)) 1)", "(let ((x 1) (_ 1)) 1)", "(let () _)",
	}
	for _, place := range places {
		if _, err := read(strings.ReplaceAll(place, "_", "a")); err != nil {
			t.Errorf("Read(%q) with a name: %v", place, err)
		}
		for _, keyword := range []string{"quote", "if", "lambda", "set!", "define", "begin", "let"} {
			text := strings.ReplaceAll(place, "_", keyword)
			if f, err := read(text); f != nil || !errors.Is(err, fault.Fault(api.ErrForm)) {
				t.Errorf("Read(%q) = %#v, %v, want ErrForm", text, f, err)
			}
		}
	}
}

func TestADefineIsTheWholeInputOrNoForm(t *testing.T) {
	for _, place := range []string{
		"(f _)", "(_)", "(if _ 1 2)", "(if 1 _ 2)", "(if 1 2 _)", "(begin _)", "(begin 1 _)",
		"(set! x _)", "(define x _)", "(lambda () _)", "(let ((x _)) 1)", "(let () _)",
	} {
		text := strings.ReplaceAll(place, "_", "(define x 1)")
		if f, err := read(text); f != nil || !errors.Is(err, fault.Fault(api.ErrForm)) {
			t.Errorf("Read(%q) = %#v, %v, want ErrForm", text, f, err)
		}
		text = strings.ReplaceAll(place, "_", "'(define x 1)")
		if _, err := read(text); err != nil {
			t.Errorf("Read(%q): %v", text, err)
		}
	}
}
