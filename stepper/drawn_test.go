package stepper

import (
	"math/rand"
	"slices"
	"strings"
	"testing"

	"stepper/api"
)

// drawer draws sessions: each seed has its own.
type drawer struct{ *rand.Rand }

func (d drawer) one(all ...string) string { return all[d.Intn(len(all))] }

func (d drawer) of(words string) string { return d.one(strings.Fields(words)...) }

// form draws a form; names are those that lambdas have bound round it.
func (d drawer) form(deep int, names string) string {
	if deep == 0 {
		return d.of("0 1 2 -3 7 #t #f '() 'a '(1) '(2 a) + - cons car display call/cc x y f g k j nowhere" + names + names + names)
	}
	sub := func() string { return d.form(d.Intn(deep), names) }
	switch d.Intn(16) {
	case 0, 1, 2:
		return "(" + d.of("+ - * < = cons eq?") + " " + sub() + " " + sub() + ")"
	case 3, 4:
		return "(" + d.of("car cdr null? pair? display") + " " + sub() + ")"
	case 5:
		return "(if " + sub() + " " + sub() + " " + sub() + ")"
	case 6:
		return "(begin " + sub() + " " + sub() + ")"
	case 7:
		return "(begin " + sub() + ")"
	case 8:
		return "(set! " + d.of("x y f g k j + car cons nowhere"+names) + " " + sub() + ")"
	case 9:
		first, second := d.of("x n m"), d.of("+ f")
		return "(let ((" + first + " " + sub() + ") (" + second + " " + sub() + ")) " + d.form(deep-1, names+" "+first+" "+second) + ")"
	case 10:
		bound := d.one("", "x", "n", "car", "n m", "m car", "x n m")
		return "(lambda (" + bound + ") " + d.form(deep-1, names+" "+bound) + ")"
	case 11:
		return "(call/cc (lambda (c) " + d.form(deep-1, names+" c") + "))"
	case 12:
		return "(call/cc (lambda (c) (begin (set! " + d.of("k j") + " c) " + sub() + ")))"
	case 13, 14:
		return "(" + d.of("f g k j x"+names) + d.one(" ", " ", " ", " 1 ", " 2 x ") + sub() + ")"
	}
	return "(" + sub() + " " + sub() + strings.Repeat(" "+sub(), d.Intn(2)) + ")"
}

func (d drawer) text() string {
	switch d.Intn(12) {
	case 0:
		return d.of("( ) if () 1+ (car 'a")
	case 1, 2, 3:
		return "(define " + d.of("x y f g k + car") + " " + d.form(3, "") + ")"
	case 4:
		return "(define " + d.of("f g") + " (lambda (n) " + d.form(4, " n n") + "))"
	case 5:
		return "(define + " + d.of("- * cons y") + ")"
	}
	return d.form(5, "")
}

func (d drawer) fuel() int {
	switch d.Intn(20) {
	case 0:
		return d.Intn(10) - 1
	case 1:
		return api.MaxFuel + d.Intn(2)
	case 2, 3:
		return d.Intn(60)
	}
	return 300 + d.Intn(300)
}

func (d drawer) session() []api.Input {
	inputs := script("(define x 3)", "(define y '(1 2))", "(define f (lambda (n) (if (< n 1) 0 (+ 1 (f (- n 1))))))", "(define g car)", "(define k +)", "(define j -)")
	for range 3 + d.Intn(10) {
		inputs = append(inputs, api.Input{Text: d.text(), Fuel: d.fuel()})
	}
	return inputs
}

func TestP6DrawnSessions(t *testing.T) {
	for seed := range 4000 {
		d := drawer{rand.New(rand.NewSource(int64(seed)))}
		wantFast(t, d.session())
		if t.Failed() {
			t.Fatalf("of the session of seed %d", seed)
		}
	}
}

func TestP7DrawnSessions(t *testing.T) {
	for seed := range 500 {
		d := drawer{rand.New(rand.NewSource(int64(-1 - seed)))}
		inputs := d.session()
		before := slices.Clone(inputs)
		wantBoth(t, inputs)
		if t.Failed() || !slices.Equal(inputs, before) {
			t.Fatalf("of the session of seed %d: %+v", seed, inputs)
		}
	}
}
