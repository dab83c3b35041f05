package stepper

import (
	"strings"
	"testing"

	"stepper/api"
)

// said is an input, with fuel enough, and what is answered to it.
type said struct {
	text string
	want api.Outcome
}

func gives(text, value string) said { return said{text, api.Outcome{Value: value}} }

func shows(text, output, value string) said {
	return said{text, api.Outcome{Output: output, Value: value}}
}

func fails(text string, code api.Errno) said { return said{text, api.Outcome{Code: code}} }

const enough = 100000

func wantSession(t *testing.T, session ...said) {
	t.Helper()
	var script []api.Input
	for _, s := range session {
		script = append(script, api.Input{Text: s.text, Fuel: enough})
	}
	got := Slow(script)
	if len(got) != len(script) {
		t.Fatalf("%d outcomes of %d inputs", len(got), len(script))
	}
	for i, s := range session {
		if got[i] != s.want {
			t.Errorf("input %d, %.80q: %+v, want %+v", i, s.text, got[i], s.want)
		}
	}
	wantFast(t, script)
	wantBoth(t, script)
}

func TestP4Examples(t *testing.T) {
	wantSession(t, gives("(define x 5)", ""), gives("(+ x 1)", "6"), fails("y", api.ErrUnbound), fails("(car 1)", api.ErrType),
		fails("(car)", api.ErrArity), fails("(1 2)", api.ErrType), fails("'(1 (2 . 3))", api.ErrText),
		gives("(cons 1 '(2 a))", "(1 2 a)"), gives("(cons 1 2)", "(1 . 2)"))
	wantSession(t, said{"(begin (display 1) (display 'a) (car 2))", api.Outcome{Code: api.ErrType, Output: "1a"}})
	wantSession(t, gives("(+ 1 (call/cc (lambda (k) (k 5))))", "6"))
	wantSession(t, gives("(define k 0)", ""), gives("(+ 1 (call/cc (lambda (c) (begin (set! k c) 1))))", "2"), gives("(k 10)", "11"))
	wantSession(t, gives("(define f (lambda (x) (+ x 1)))", ""), gives("(f 5)", "6"), gives("(define + -)", ""), gives("(f 5)", "4"))
	wantSession(t, gives("(begin (set! + *) (+ 3 4))", "12"))
	wantSession(t, gives("(define l (lambda (n) (l n)))", ""), fails("(l 1)", api.ErrFuel))
	wantSession(t, gives("(eq? 'a 'a)", "#t"), gives("(eq? (cons 1 2) (cons 1 2))", "#f"), gives("(define p (lambda () '(1)))", ""),
		gives("(eq? (p) (p))", "#t"), gives("((lambda (f) (eq? f f)) (lambda () 1))", "#t"))
}

func TestP4NoScriptNoOutcome(t *testing.T) {
	for _, script := range [][]api.Input{nil, {}} {
		if got := Slow(script); len(got) != 0 {
			t.Errorf("%+v", got)
		}
	}
}

func TestP4Constants(t *testing.T) {
	wantSession(t, gives("007", "7"), gives("-0", "0"), gives("-12", "-12"), gives("1099511627776", "1099511627776"), gives("#t", "#t"), gives("#f", "#f"),
		gives("'5", "5"), gives("'#f", "#f"), gives("'if", "if"), gives("'()", "()"), gives("'(1 (2 ()) #t)", "(1 (2 ()) #t)"), gives("''a", "(quote a)"),
		gives("(lambda () 1)", "#procedure"), gives("+", "#procedure"), gives("call/cc", "#procedure"), gives("(call/cc (lambda (k) k))", "#procedure"))
}

func TestP4OnlyFalseIsFalse(t *testing.T) {
	wantSession(t, gives("(if #f 1 2)", "2"), gives("(if #t 1 2)", "1"))
	for _, test := range []string{"0", "'()", "'a", "car", "(display 'x)", "'(#f)", "(lambda () #f)"} {
		script := []api.Input{{Text: "(if " + test + " 1 2)", Fuel: enough}}
		if got := Slow(script); got[0].Value != "1" {
			t.Errorf("if of %s: %+v", test, got)
		}
	}
}

func TestP4Globals(t *testing.T) {
	wantSession(t, fails("x", api.ErrUnbound), fails("(set! x 1)", api.ErrUnbound), fails("x", api.ErrUnbound), gives("(define x 1)", ""), gives("(set! x 2)", ""),
		gives("x", "2"), gives("(define x 3)", ""), gives("x", "3"), fails("(define y z)", api.ErrUnbound), fails("y", api.ErrUnbound),
		gives("(define f (lambda () late))", ""), fails("(f)", api.ErrUnbound), gives("(define late 7)", ""), gives("(f)", "7"),
		gives("(define car cdr)", ""), gives("(car '(1 2))", "(2)"), gives("(set! cdr 5)", ""), gives("cdr", "5"), fails("(cdr '(1))", api.ErrType),
		gives("(car '(1 2))", "(2)"), gives("(define nil '())", ""), shows("(define d (display 1))", "1", ""), gives("d", ""))
}

func TestP4TheInnermostPlace(t *testing.T) {
	wantSession(t, gives("(define x 1)", ""), gives("((lambda (x) x) 2)", "2"), gives("(let ((x 2)) (let ((x 3)) x))", "3"),
		gives("(let ((x 2)) (begin (let ((x 3)) (set! x 4)) x))", "2"), gives("(let ((x 2)) (begin (set! x 5) x))", "5"), gives("x", "1"),
		gives("(let ((x 2)) (begin (let ((y 3)) (set! x y)) x))", "3"), gives("(let ((y x)) (set! x 9))", ""), gives("x", "9"),
		gives("(let ((x 1)) (let ((y x) (x 2)) (cons x y)))", "(2 . 1)"), gives("(let ((car cdr)) (car '(1 2)))", "(2)"),
		gives("(define f (lambda () x))", ""), gives("(let ((x 5)) (f))", "9"), fails("(let ((u 1)) (set! w u))", api.ErrUnbound))
}

func TestP4EachApplicationHasItsOwnPlaces(t *testing.T) {
	wantSession(t, gives("(define make (lambda (n) (lambda () (begin (set! n (+ n 1)) n))))", ""), gives("(define a (make 5))", ""), gives("(define b (make 10))", ""),
		gives("(a)", "6"), gives("(a)", "7"), gives("(b)", "11"), gives("(a)", "8"),
		gives("(define both (lambda (n) (cons (lambda () n) (lambda (m) (set! n m)))))", ""), gives("(define c (both 1))", ""),
		gives("((cdr c) 2)", ""), gives("((car c))", "2"))
}

func TestP4Applied(t *testing.T) {
	wantSession(t, gives("((lambda () 1))", "1"), gives("((lambda (x y z) (cons x (cons y z))) 1 2 3)", "(1 2 . 3)"),
		fails("((lambda () 1) 2)", api.ErrArity), fails("((lambda (x) x))", api.ErrArity), fails("((lambda (x) x) 1 2)", api.ErrArity),
		gives("((if #f + -) 7 3)", "4"), gives("((begin 1 car) '(5))", "5"), gives("(let ((f (lambda (g) (g g)))) (f (lambda (h) 3)))", "3"))
	for _, v := range []string{"1", "#t", "#f", "'a", "'()", "'(1)", "(begin 'car)", "(set! car car)"} {
		wantSession(t, fails("("+v+")", api.ErrType), fails("("+v+" 1)", api.ErrType), fails("(call/cc "+v+")", api.ErrType))
	}
}

func TestP4ArgumentsAreWorkedOutInTheirOrder(t *testing.T) {
	wantSession(t, shows("((begin (display 1) cons) (begin (display 2) 'a) (begin (display 3) 'b))", "123", "(a . b)"),
		said{"((begin (display 1) 5) (display 2))", api.Outcome{Code: api.ErrType, Output: "12"}},
		said{"((lambda (x) x) (display 1) (display 2))", api.Outcome{Code: api.ErrArity, Output: "12"}},
		said{"(car (display 1) (display 2) nowhere)", api.Outcome{Code: api.ErrUnbound, Output: "12"}})
}

func TestP4WhatIsAppliedIsWorkedOutFirst(t *testing.T) {
	wantSession(t, gives("(+ 3 (begin (set! + -) 4))", "7"), gives("(+ 3 4)", "-1"),
		gives("(define x 1)", ""), gives("(cons x (begin (set! x 2) x))", "(1 . 2)"))
}

func TestP4Primitives(t *testing.T) {
	wantSession(t, gives("(+ 2 3)", "5"), gives("(- 2 3)", "-1"), gives("(* -2 3)", "-6"), gives("(< 1 2)", "#t"), gives("(< 2 2)", "#f"), gives("(< 3 2)", "#f"),
		gives("(= 2 2)", "#t"), gives("(= 2 -2)", "#f"), gives("(car '(1 2))", "1"), gives("(cdr '(1 2))", "(2)"), gives("(car (cons 1 2))", "1"), gives("(cdr (cons 1 2))", "2"),
		gives("(null? '())", "#t"), gives("(null? '(1))", "#f"), gives("(null? #f)", "#f"), gives("(null? 0)", "#f"),
		gives("(pair? '(1))", "#t"), gives("(pair? '())", "#f"), gives("(pair? car)", "#f"),
		shows("(display 'a)", "a", ""), shows("(null? (display '()))", "()", "#f"))
	for _, p := range []string{"+", "-", "*", "<", "="} {
		wantSession(t, fails("("+p+")", api.ErrArity), fails("("+p+" 1)", api.ErrArity), fails("("+p+" 1 2 3)", api.ErrArity), fails("("+p+" 'a)", api.ErrArity),
			fails("("+p+" 1 #t)", api.ErrType), fails("("+p+" 'a 1)", api.ErrType), fails("("+p+" '() '(1))", api.ErrType), fails("("+p+" + 1)", api.ErrType))
	}
	for _, p := range []string{"car", "cdr"} {
		wantSession(t, fails("("+p+")", api.ErrArity), fails("("+p+" '(1) '(2))", api.ErrArity), fails("("+p+" 1 2)", api.ErrArity),
			fails("("+p+" 1)", api.ErrType), fails("("+p+" '())", api.ErrType), fails("("+p+" car)", api.ErrType), fails("("+p+" 'a)", api.ErrType))
	}
	for _, p := range []string{"null?", "pair?", "display", "call/cc"} {
		wantSession(t, fails("("+p+")", api.ErrArity), fails("("+p+" 1 2)", api.ErrArity))
	}
	for _, p := range []string{"cons", "eq?"} {
		wantSession(t, fails("("+p+")", api.ErrArity), fails("("+p+" 1)", api.ErrArity), fails("("+p+" 1 2 3)", api.ErrArity))
	}
}

func TestP4NumbersAtTheLimits(t *testing.T) {
	wantSession(t, gives("(+ 1099511627775 1)", "1099511627776"), fails("(+ 1099511627776 1)", api.ErrBig), fails("(+ 1099511627776 1099511627776)", api.ErrBig),
		gives("(- -1099511627775 1)", "-1099511627776"), fails("(- -1099511627776 1)", api.ErrBig), fails("(- 1 -1099511627776)", api.ErrBig),
		gives("(* 1048576 1048576)", "1099511627776"), fails("(* 1048577 1048576)", api.ErrBig), gives("(* -1048576 1048576)", "-1099511627776"),
		fails("(* -1048576 1048577)", api.ErrBig), fails("(* 1099511627776 1099511627776)", api.ErrBig), fails("(* 16777216 1099511627776)", api.ErrBig),
		gives("(* 0 -1099511627776)", "0"), gives("(* -1 -1099511627776)", "1099511627776"), gives("(< -1099511627776 1099511627776)", "#t"))
}

func TestP4Same(t *testing.T) {
	wantSession(t, gives("(eq? 5 5)", "#t"), gives("(eq? 5 6)", "#f"), gives("(eq? 123456789 123456789)", "#t"), gives("(eq? #t #t)", "#t"), gives("(eq? #t #f)", "#f"),
		gives("(eq? 1 #t)", "#f"), gives("(eq? '() '())", "#t"), gives("(eq? '() #f)", "#f"), shows("(eq? (display 1) (set! car car))", "1", "#t"), gives("(eq? (set! car car) '())", "#f"),
		gives("(eq? car car)", "#t"), gives("(eq? car cdr)", "#f"), gives("(eq? call/cc call/cc)", "#t"), gives("(eq? '(1) '(1))", "#f"),
		gives("(let ((p (cons 1 2))) (eq? p p))", "#t"), gives("(let ((p '(1 2))) (eq? (cdr p) (cdr p)))", "#t"),
		gives("(eq? (lambda () 1) (lambda () 1))", "#f"), gives("(define make (lambda () (lambda () 1)))", ""), gives("(eq? (make) (make))", "#f"),
		gives("(call/cc (lambda (k) (eq? k k)))", "#t"), gives("(eq? (call/cc (lambda (k) k)) (call/cc (lambda (k) k)))", "#f"),
		gives("(call/cc (lambda (k) (call/cc (lambda (j) (eq? k j)))))", "#f"))
}

func TestP4TheTextOfAValueIsCut(t *testing.T) {
	name := strings.Repeat("a", 290)
	wantSession(t, gives("'"+name[:200], name[:200]), gives("'"+name[:201], name[:200]+".."), gives("'"+name, name[:200]+".."),
		gives("'("+name[:198]+")", "("+name[:198]+")"), gives("'("+name[:199]+")", "("+name[:199]+".."), gives("'("+name[:196]+" bc)", "("+name[:196]+" bc.."),
		shows("(display '"+name[:201]+")", name[:200]+"..", ""), shows("(display '"+name[:200]+")", name[:200], ""))
}

// The text of x has 2 to the 1000 letters and more.
func TestP4ATextFarTooLongToBeWrittenOut(t *testing.T) {
	wantSession(t, gives("(define x 'a)", ""), gives("(define d (lambda (n) (if (= n 0) x (begin (set! x (cons x x)) (d (- n 1))))))", ""),
		gives("(d 3)", "(((a . a) a . a) (a . a) a . a)"), gives("(d 997)", strings.Repeat("(", 200)+".."),
		shows("(display (cons 1 x))", "(1 "+strings.Repeat("(", 197)+"..", ""),
		gives("(define up (lambda (n l) (if (= n 0) l (up (- n 1) (cons n l)))))", ""),
		gives("(up 1000 '())", "(1 2 3 4 5 6 7 8 9 10 11 12 13 14 15 16 17 18 19 20 21 22 23 24 25 26 27 28 29 30 31 32 33 34 35 36 37 38 39 40 41 42 43 44 45 46 47 48 49 50 51 52 53 54 55 56 57 58 59 60 61 62 63 64 65 66 67 68 69 7.."))
}

func TestP4TheOutputHasRoomForMaxOutputBytes(t *testing.T) {
	full := strings.Repeat("12345678", api.MaxOutput/8)
	wantSession(t, gives("(define show (lambda (n) (if (= n 0) 'end (begin (display 12345678) (show (- n 1))))))", ""),
		shows("(show 125)", full, "end"), said{"(show 126)", api.Outcome{Code: api.ErrBig, Output: full}},
		said{"(begin (show 124) (display 'abc) (display 'defghi))", api.Outcome{Code: api.ErrBig, Output: full[:992] + "abc"}},
		shows("(begin (show 124) (display 'abc) (display 'defgh))", full[:992]+"abcdefgh", ""),
		said{"(begin (show 125) (display (set! car car)) (display '()))", api.Outcome{Code: api.ErrBig, Output: full}},
		shows("(display 1)", "1", ""))
	long := strings.Repeat("a", 201)
	cut := long[:200] + ".."
	wantSession(t, gives("(define a '"+long+")", ""), said{"(begin (display a) (display a) (display a) (display a) (display a))", api.Outcome{Code: api.ErrBig, Output: strings.Repeat(cut, 4)}})
}

func TestP4AnInputThatFailsLeavesWhatItHasDone(t *testing.T) {
	wantSession(t, gives("(define x 1)", ""), fails("(begin (set! x 2) (car 1))", api.ErrType), gives("x", "2"),
		fails("(begin (set! x 3) nowhere)", api.ErrUnbound), gives("x", "3"),
		said{"(begin (set! x 4) (display 1) (car))", api.Outcome{Code: api.ErrArity, Output: "1"}}, gives("x", "4"),
		fails("(begin (set! x 5) (* 1099511627776 2))", api.ErrBig), gives("x", "5"), fails("(define x (car 1))", api.ErrType), gives("x", "5"))
}

func TestP4AnInputThatCannotBeReadChangesNothing(t *testing.T) {
	script := []api.Input{{Text: "(define x 1)", Fuel: 3}, {Text: "(begin (set! x 2) (display 1)", Fuel: 99}, {Text: "(begin (set! x 2) (if))", Fuel: 99},
		{Text: "(set! x 1099511627777)", Fuel: 99}, {Text: "(set! x " + begins(20) + ")", Fuel: 99}, {Text: filled("(set! x 2)", 301), Fuel: 99},
		{Text: "(set! x 2)", Fuel: -1}, {Text: "(set! x 2)", Fuel: api.MaxFuel + 1}, {Text: "x", Fuel: 1}}
	wantOutcomes(t, script, []api.Outcome{{}, {Code: api.ErrText}, {Code: api.ErrForm}, {Code: api.ErrNumber}, {Code: api.ErrDepth}, {Code: api.ErrLong}, {Code: api.ErrOver}, {Code: api.ErrOver}, {Value: "1"}})
}

func wantOutcomes(t *testing.T, script []api.Input, want []api.Outcome) {
	t.Helper()
	got := Slow(script)
	if len(got) != len(want) {
		t.Fatalf("%d outcomes of %d inputs", len(got), len(script))
	}
	for i := range want {
		if got[i] != want[i] {
			t.Errorf("input %d, %.80q with %d: %+v, want %+v", i, script[i].Text, script[i].Fuel, got[i], want[i])
		}
	}
	wantFast(t, script)
	wantBoth(t, script)
}

func TestP4AFuelThatMayNotBe(t *testing.T) {
	for _, text := range []string{"1", "(", "", "x", strings.Repeat("a", 301), "(display 1)"} {
		for _, fuel := range []int{-1, -1 << 63, api.MaxFuel + 1, 1<<63 - 1} {
			wantOutcomes(t, []api.Input{{Text: text, Fuel: fuel}}, []api.Outcome{{Code: api.ErrOver}})
		}
	}
	wantOutcomes(t, []api.Input{{Text: "1", Fuel: api.MaxFuel}, {Text: "(", Fuel: api.MaxFuel}, {Text: "(", Fuel: 0}, {Text: "1", Fuel: 0}, {Text: "x", Fuel: 0}},
		[]api.Outcome{{Value: "1"}, {Code: api.ErrText}, {Code: api.ErrText}, {Code: api.ErrFuel}, {Code: api.ErrFuel}})
}

// counted is an input and how many steps it takes to its end.
type counted struct {
	text  string
	steps int
}

func countedInputs() []counted {
	return []counted{{"5", 1}, {"#t", 1}, {"'(a)", 1}, {"car", 1}, {"(lambda (x) x)", 1}, {"(+ 1 2)", 7}, {"(if #t 1 2)", 4}, {"(if #f 1 2)", 4}, {"(if (if #t #f #t) 1 2)", 7},
		{"(begin 1)", 2}, {"(begin (begin (begin 1)))", 4}, {"(begin 1 2)", 4}, {"(begin 1 2 3)", 6}, {"(define x 1)", 3}, {"(set! car 1)", 3},
		{"((lambda () 5))", 4}, {"((lambda (x) x) 1)", 6}, {"((lambda (x y) x) 1 2)", 8}, {"(let ((x 1)) x)", 6}, {"(let () 1)", 4}, {"(display 1)", 5},
		{"(call/cc (lambda (k) 1))", 6}, {"(call/cc (lambda (k) (k 1)))", 10}, {"(call/cc call/cc)", 5}, {"(call/cc display)", 5}, {"(+ 1 (call/cc (lambda (k) (k 5))))", 16}}
}

func TestP4FuelJustEnoughAndOneTooFew(t *testing.T) {
	for _, c := range countedInputs() {
		got := Slow([]api.Input{{Text: c.text, Fuel: c.steps}, {Text: c.text, Fuel: c.steps + 1}})
		if got[0].Code != api.OK {
			t.Errorf("%q with %d: %+v", c.text, c.steps, got[0])
		}
		for fuel := range c.steps {
			got := Slow([]api.Input{{Text: c.text, Fuel: fuel}})
			if got[0] != (api.Outcome{Code: api.ErrFuel}) {
				t.Errorf("%q with %d: %+v", c.text, fuel, got[0])
			}
		}
	}
}

// failing is an input and the step that is an error.
type failing struct {
	text  string
	steps int
	code  api.Errno
}

func countedFaults() []failing {
	return []failing{{"x", 1, api.ErrUnbound}, {"(set! x 1)", 3, api.ErrUnbound}, {"(1)", 3, api.ErrType}, {"(car 1)", 5, api.ErrType}, {"(car)", 3, api.ErrArity},
		{"((lambda () 1) 2)", 5, api.ErrArity}, {"(* 1099511627776 2)", 7, api.ErrBig}, {"(call/cc 1)", 5, api.ErrType}, {"(call/cc car)", 5, api.ErrType}, {"(call/cc +)", 5, api.ErrArity}}
}

func TestP4AnErrorComesWithItsStep(t *testing.T) {
	for _, c := range countedFaults() {
		wantOutcomes(t, []api.Input{{Text: c.text, Fuel: c.steps - 1}}, []api.Outcome{{Code: api.ErrFuel}})
		wantOutcomes(t, []api.Input{{Text: c.text, Fuel: c.steps}}, []api.Outcome{{Code: c.code}})
	}
}

func TestP4WhatHasBeenDoneWithinTheFuelStays(t *testing.T) {
	script := []api.Input{{Text: "(begin (display 1) (display 2))", Fuel: 5}, {Text: "(begin (display 1) (display 2))", Fuel: 6},
		{Text: "(begin (display 1) (display 2))", Fuel: 11}, {Text: "(begin (display 1) (display 2))", Fuel: 12}, {Text: "(define x 5)", Fuel: 2}, {Text: "x", Fuel: 9}, {Text: "(define x 5)", Fuel: 3},
		{Text: "(begin (set! x 6) x)", Fuel: 3}, {Text: "x", Fuel: 1}, {Text: "(begin (set! x 6) x)", Fuel: 4}, {Text: "x", Fuel: 1}}
	wantOutcomes(t, script, []api.Outcome{{Code: api.ErrFuel}, {Code: api.ErrFuel, Output: "1"}, {Code: api.ErrFuel, Output: "1"}, {Output: "12"}, {Code: api.ErrFuel}, {Code: api.ErrUnbound}, {},
		{Code: api.ErrFuel}, {Value: "5"}, {Code: api.ErrFuel}, {Value: "6"}})
}

// (l n) takes 15 steps and 20 for each n, a begin round it one more.
func TestP4JustMaxFuelSteps(t *testing.T) {
	loop := api.Input{Text: "(define l (lambda (n) (if (= n 0) 'end (l (- n 1)))))", Fuel: 3}
	just := "(begin (begin (begin (begin (begin (l 49999))))))"
	wantOutcomes(t, []api.Input{loop, {Text: just, Fuel: api.MaxFuel}}, []api.Outcome{{}, {Value: "end"}})
	wantOutcomes(t, []api.Input{loop, {Text: "(begin " + just + ")", Fuel: api.MaxFuel}}, []api.Outcome{{}, {Code: api.ErrFuel}})
	wantOutcomes(t, []api.Input{loop, {Text: just, Fuel: api.MaxFuel - 1}}, []api.Outcome{{}, {Code: api.ErrFuel}})
}
