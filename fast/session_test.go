package fast

import (
	"errors"
	"runtime"
	"testing"

	"stepper/api"
	"stepper/fault"
	"stepper/names"
	"stepper/slow"
	"stepper/syntax"
	"stepper/value"
)

// pair is a session by each engine, with one table of names.
type pair struct {
	fast  *Session
	slow  *slow.Session
	table *names.Table
}

func newPair() pair {
	table := names.NewTable()
	return pair{NewSession(table), slow.NewSession(table), table}
}

func (p pair) read(t *testing.T, text string) syntax.Form {
	t.Helper()
	f, err := syntax.Read(text, p.table)
	if err != nil {
		t.Fatal(err)
	}
	return f
}

// run runs an input by the fast engine and tells the steps that it has made.
func (p pair) run(t *testing.T, text string) int {
	t.Helper()
	m := machine{fuel: api.MaxFuel}
	if _, err := m.run(p.fast.code(p.read(t, text), nil)); err != nil {
		t.Fatal(err)
	}
	return m.steps
}

func TestTheStepsAreThoseOfTheSlowEngine(t *testing.T) {
	for _, script := range [][]string{
		{"5", "'a", "car", "(lambda (x) x)", "(begin 1)", "(begin 1 2)", "(begin 1 2 (begin 3) 4)", "(if #t 1 2)", "(if (if #t #f #t) 1 2)", "(define x 1)", "x", "(set! x 2)", "(set! car cdr)"},
		{"(+ 1 2)", "(car '(1))", "(+ (* 1 2) (- 3 (car '(4))))", "(let ((f +)) (f 1 2))", "((if #t + -) 1 2)", "((begin car) '(1))", "(call/cc display)"},
		{"((lambda () 5))", "((lambda (x) x) 1)", "(let ((x 1) (y 2)) (let ((z x)) (set! z y)))", "(let ((f (lambda (x) x))) (f (f 1)))", "(let ((f (lambda () 1))) (begin (f) (f) 2 (f)))"},
		{"(call/cc (lambda (k) 1))", "(call/cc (lambda (k) (k 1)))", "(+ 1 (call/cc (lambda (k) (k 5))))", "(call/cc call/cc)", "((call/cc call/cc) (lambda (x) 5))", "(if (call/cc (lambda (k) (k #f))) 1 2)"},
		{"(define k 0)", "(+ (call/cc (lambda (c) (begin (set! k c) 1))) (call/cc (lambda (c) 2)))", "(k 5)", "(begin (car '(1)) (k 6) 7)", "(define + (lambda (a b) (- a b)))", "(+ 1 (+ 2 3))", "(k 8)", "(define + *)", "(+ (+ 1 2) 3)"},
		{"(define fact (lambda (n) (if (< n 1) 1 (* n (fact (- n 1))))))", "(fact 10)", "(define up (lambda (a n) (if (= n 0) a (up (+ a n) (- n 1)))))", "(up 0 100)", "(set! up (begin (fact 3) (fact 4)))", "(define x (fact 5))"},
		{"(define f (lambda (a b) (cons a b)))", "(f (f 1 2) (f 3 (f 4 5)))", "(cons (f 1 2) 3)", "(cons 1 (f 2 3))", "(car (f 1 2))", "(if (f 1 2) (f 3 4) 5)", "(let ((x (f 1 2))) (f x x))", "((car (f car cdr)) (f 1 2))"},
	} {
		p := newPair()
		for _, text := range script {
			input := p.read(t, text)
			want := len(p.slow.Trace(input, api.MaxFuel)) - 1
			if got := p.run(t, text); got != want {
				t.Errorf("%s: %d steps, want %d", text, got, want)
			}
		}
	}
}

func TestAnErrorIsWrappedAsTheSlowEngineWrapsIt(t *testing.T) {
	for _, text := range []string{"nowhere", "(nowhere 1)", "(set! nowhere 1)", "('(1 a) 2)", "(car 1)", "(+ 1)", "(car)", "(* 1099511627776 2)", "((lambda () 1) 2)", "(let ((f car)) (f 1))",
		"(let ((f (lambda () 1))) (f 2))", "(call/cc (lambda (k) (k)))", "(call/cc)", "(call/cc 5)", "(call/cc car)", "(call/cc (lambda () 1))", "((lambda (f) (f f)) (lambda (f) (f f)))"} {
		p := newPair()
		_, _, want := p.slow.Run(p.read(t, text), 100)
		output, told, err := p.fast.Run(p.read(t, text), 100)
		var doing fault.Doing
		if !errors.As(err, &doing) || err.Error() != want.Error() || output != "" || told != "" {
			t.Errorf("%s: %q, %q, %v, want %v", text, output, told, err, want)
		}
	}
}

func TestASessionKeepsItsGlobalsAndNoOthers(t *testing.T) {
	first, second := newPair(), newPair()
	first.run(t, "(define car 5)")
	if _, told, err := first.fast.Run(first.read(t, "car"), 1); told != "5" || err != nil {
		t.Errorf("in the first session: %q, %v", told, err)
	}
	if _, told, err := second.fast.Run(second.read(t, "car"), 1); told != "#procedure" || err != nil {
		t.Errorf("in the second session: %q, %v", told, err)
	}
}

// Nothing is displayed beyond the fuel, whatever the form that is worked out
// at once.
func TestTheOutputEndsWithTheFuel(t *testing.T) {
	const text = "(begin (display 1) (display (display 2)) ((if #t display 0) 3) (let ((d display)) (d 4)) (call/cc (lambda (k) (display 5))))"
	for fuel := range 50 {
		p := newPair()
		want, _, _ := p.slow.Run(p.read(t, text), fuel)
		if got, _, _ := p.fast.Run(p.read(t, text), fuel); got != want {
			t.Errorf("with %d: %q, want %q", fuel, got, want)
		}
	}
}

// However deep the calls of a procedure are, the codes call one another no
// deeper than a form is.
func TestTheCallsOfAProcedureAreOnThePile(t *testing.T) {
	p := newPair()
	depth := 0
	probe := func(*machine, *places) (value.Value, error) {
		depth = runtime.Callers(0, make([]uintptr, 100000))
		return value.Number(0), nil
	}
	p.fast.global(syntax.Name{Number: p.table.Number("probe")}).set(&procedure{body: probe})
	for _, body := range []string{"(+ 1 (down (- n 1)))", "(+ (down (- n 1)) 1)", "(car (cons (down (- n 1)) 1))", "(begin (down (- n 1)) 1)", "(if (down (- n 1)) 1 2)", "(set! n (down (- n 1)))",
		"(let ((m (down (- n 1)))) m)", "(down (- n 1))", "((down (- n 1)) 1)", "(call/cc (lambda (k) (+ 1 (down (- n 1)))))"} {
		p.run(t, "(define down (lambda (n) (if (= n 0) (begin (probe) (call/cc out)) "+body+")))")
		p.run(t, "(define out 0)")
		p.run(t, "(call/cc (lambda (k) (begin (set! out k) (down 3))))")
		few := depth
		p.run(t, "(call/cc (lambda (k) (begin (set! out k) (down 3000))))")
		if depth == 0 || depth > few {
			t.Errorf("%s: %d calls deep, and %d", body, few, depth)
		}
	}
}
