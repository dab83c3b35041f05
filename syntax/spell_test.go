package syntax

import (
	"strings"
	"testing"

	"stepper/api"
	"stepper/spell"
)

func TestTheTextOfAFormIsItsDatums(t *testing.T) {
	for _, c := range []struct{ text, want string }{
		{"007", "7"},
		{"-0", "0"},
		{"#t", "#t"},
		{"x", "x"},
		{"'a", "(quote a)"},
		{"'7", "(quote 7)"},
		{"''a", "(quote (quote a))"},
		{"'()", "(quote ())"},
		{"'(let ((x 1)) 'x)", "(quote (let ((x 1)) (quote x)))"},
		{"(if x 'y #f)", "(if x (quote y) #f)"},
		{"(begin 1)", "(begin 1)"},
		{"(begin 1 2 3)", "(begin 1 2 3)"},
		{"(set! x (f))", "(set! x (f))"},
		{"(define x (f 1))", "(define x (f 1))"},
		{"(lambda () 1)", "(lambda () 1)"},
		{"(lambda (x y) (x y))", "(lambda (x y) (x y))"},
		{"(\n( f )a)", "((f) a)"},
		{"(let () 1)", "((lambda () 1))"},
		{"(let ((x 'a) (y 2)) (let ((z x)) z))", "((lambda (x y) ((lambda (z) z) x)) (quote a) 2)"},
		{strings.Repeat("a", 300), strings.Repeat("a", api.MaxPrint) + ".."},
		{"(f " + strings.Repeat("x ", 140) + ")", "(f " + strings.Repeat("x ", 140)[:api.MaxPrint-3] + ".."},
	} {
		f, err := read(c.text)
		if err != nil {
			t.Errorf("Read(%q): %v", c.text, err)
			continue
		}
		if got := spell.Of(f); got != c.want {
			t.Errorf("the text of %q is %q, want %q", c.text, got, c.want)
		}
	}
}

// A form that is spelled stays as it was: nothing is written behind its forms.
func TestSpellingChangesNothing(t *testing.T) {
	f, err := read("(begin (f 1 2 3) (begin 4 5 6) 7)")
	if err != nil {
		t.Fatal(err)
	}
	first := spell.Of(f)
	if second := spell.Of(f); first != second {
		t.Errorf("first %q, then %q", first, second)
	}
}
