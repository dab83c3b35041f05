package stepper

import (
	"slices"
	"strings"
	"testing"

	"stepper/api"
)

// wrongTexts cannot be read.
func wrongTexts() []string {
	return []string{"", "(", ")", "a1", "1 2", "\xff", filled("1", 301), begins(21), "1099511627777", "()", "if", "(if 1 2)", "(lambda (x x) 1)", "(f (define x 1))"}
}

func TestP1BesideAnErrorAheadOfRunningAllIsEmpty(t *testing.T) {
	for _, text := range wrongTexts() {
		for _, fuel := range []int{0, 1, api.MaxFuel} {
			wantOutcomes(t, []api.Input{{Text: text, Fuel: fuel}}, []api.Outcome{{Code: Check(text)}})
		}
		wantOutcomes(t, []api.Input{{Text: text, Fuel: -1}}, []api.Outcome{{Code: api.ErrOver}})
	}
	wantOutcomes(t, []api.Input{{Text: "(display 1)", Fuel: -1}, {Text: "(display 1)", Fuel: api.MaxFuel + 1}}, []api.Outcome{{Code: api.ErrOver}, {Code: api.ErrOver}})
}

func TestP1BesideAnotherErrorTheValueIsEmpty(t *testing.T) {
	for _, last := range []string{"nowhere", "(car 1)", "(car)", "(* 1099511627776 2)", "(1)", "(set! nowhere 1)"} {
		got := Slow(script("(begin (display 'out) 5 " + last + ")"))[0]
		if got.Code == api.OK || got.Output != "out" || got.Value != "" {
			t.Errorf("%s: %+v", last, got)
		}
	}
	for fuel := range 8 {
		if got := Slow([]api.Input{{Text: "(begin (display 'out) 5)", Fuel: fuel}})[0]; got.Value != "" {
			t.Errorf("with %d: %+v", fuel, got)
		}
	}
}

// Every row of few tokens, run behind a script and traced, is answered as it
// is checked, or with an error of running.
func TestP1AnyTokensAreAnswered(t *testing.T) {
	tokens := []string{"(", ")", "'", "#f", "1", "x", "car", "call/cc", "quote", "if", "lambda", "set!", "define", "begin", "let"}
	var all func(text string, more int)
	all = func(text string, more int) {
		wantAnswered(t, text)
		if more == 0 {
			return
		}
		for _, token := range tokens {
			all(text+token+" ", more-1)
		}
	}
	all("", 4)
}

func wantAnswered(t *testing.T, text string) {
	checked := Check(text)
	lines, code := Trace(nil, text, 9)
	got := Slow([]api.Input{{Text: text, Fuel: 9}})[0]
	if code != checked || (len(lines) > 0) != (checked == api.OK) {
		t.Errorf("Trace(%q) = %+v, %d", text, lines, code)
	}
	if checked != api.OK && got != (api.Outcome{Code: checked}) || checked == api.OK && got.Code != api.OK && got.Code < api.ErrFuel {
		t.Errorf("Slow(%q) = %+v, Check %d", text, got, checked)
	}
}

// Frames, pairs and surroundings as many as the fuel makes.
func TestP1DeepThingsEnd(t *testing.T) {
	for _, loop := range []string{
		"(define l (lambda (n) (+ 1 (l n))))",
		"(define l (lambda (n) (l (cons n 1))))",
		"(define l (lambda (n) (l (cons 1 n))))",
		"(define l (lambda (n) (l (cons n n))))",
		"(define l (lambda (n) (l (lambda () n))))",
		"(define l (lambda (n) (l (call/cc (lambda (k) k)))))",
		"(define l (lambda (n) (cons (call/cc l) n)))",
	} {
		got := Slow([]api.Input{{Text: loop, Fuel: 3}, {Text: "(define x 1)", Fuel: 3}, {Text: "(l 1)", Fuel: api.MaxFuel}, {Text: "x", Fuel: 1}})
		if got[2] != (api.Outcome{Code: api.ErrFuel}) || got[3].Value != "1" {
			t.Errorf("%s: %+v", loop, got)
		}
	}
}

func lively() []api.Input {
	return script("(define k 0)", "(define x '(1 2))", "(begin (display x) (set! + -) (+ 5 (call/cc (lambda (c) (begin (set! k c) 1)))))", "(k 3)", "(define car cdr)", "(car x)", "nowhere", "(", "(lambda (x) x)")
}

func TestP2NothingIsKeptFromCallToCall(t *testing.T) {
	first := Slow(lively())
	lines, _ := Trace(lively(), "(cons + (car x))", 99)
	for range 3 {
		if again := Slow(lively()); !slices.Equal(first, again) {
			t.Errorf("first %+v, then %+v", first, again)
		}
		if again, _ := Trace(lively(), "(cons + (car x))", 99); !slices.Equal(lines, again) {
			t.Errorf("first %+v, then %+v", lines, again)
		}
	}
	wantSession(t, fails("k", api.ErrUnbound), fails("x", api.ErrUnbound), gives("(+ 1 2)", "3"), gives("(car '(1 2))", "1"))
	wantTrace(t, nil, "k", work("k", 0))
}

func TestP2CallsAtTheSameTime(t *testing.T) {
	want := Slow(lively())
	answers := make(chan []api.Outcome)
	for range 8 {
		go func() { answers <- Slow(lively()) }()
	}
	for range 8 {
		if got := <-answers; !slices.Equal(got, want) {
			t.Errorf("%+v, want %+v", got, want)
		}
	}
}

func TestP2WhatIsHandedInStays(t *testing.T) {
	room := append(lively(), lively()...)
	before := slices.Clone(room)
	handed := room[:len(room)/2]
	Slow(handed)
	Trace(handed, "(k 5)", 99)
	if !slices.Equal(room, before) {
		t.Errorf("%+v, before %+v", room, before)
	}
}

func TestP2EveryListIsNew(t *testing.T) {
	first, second := Slow(lively()), Slow(lively())
	lines, _ := Trace(nil, "(+ 1 2)", 99)
	others, _ := Trace(nil, "(+ 1 2)", 99)
	want, wantLines := slices.Clone(second), slices.Clone(others)
	for i := range first {
		first[i] = api.Outcome{Value: strings.Repeat("z", 3)}
	}
	for i := range lines {
		lines[i] = api.Line{What: -1}
	}
	third := Slow(lively())
	again, _ := Trace(nil, "(+ 1 2)", 99)
	if !slices.Equal(second, want) || !slices.Equal(third, want) || !slices.Equal(others, wantLines) || !slices.Equal(again, wantLines) {
		t.Error("writing into one answer is seen in another one")
	}
}
