package stepper

import (
	"slices"
	"testing"

	"stepper/api"
)

// wrongTexts cannot be read.
func wrongTexts() []string {
	return []string{"", "(", ")", "a1", "1 2", "\xff", filled("1", 301), begins(21), "1099511627777", "()", "if", "(if 1 2)", "(lambda (x x) 1)", "(f (define x 1))"}
}

func TestP1BesideAnErrorAheadOfRunningAllIsEmpty(t *testing.T) {
	for _, text := range wrongTexts() {
		for _, fuel := range []int{0, 1, api.MaxFuel} {
			wantOutcomes(t, []api.Input{{Text: text, Fuel: fuel}}, []api.Outcome{{Code: Check(text)}})
		}
		wantOutcomes(t, []api.Input{{Text: text, Fuel: -1}}, []api.Outcome{{Code: api.ErrOver}})
	}
	wantOutcomes(t, []api.Input{{Text: "(display 1)", Fuel: -1}, {Text: "(display 1)", Fuel: api.MaxFuel + 1}}, []api.Outcome{{Code: api.ErrOver}, {Code: api.ErrOver}})
}

// byAll is what each call answers that runs a script.
func byAll(script []api.Input) [][]api.Outcome {
	bySlow, byFast := Both(script)
	return [][]api.Outcome{Slow(script), Fast(script), bySlow, byFast}
}

func TestP1BesideAnotherErrorTheValueIsEmpty(t *testing.T) {
	for _, last := range []string{"nowhere", "(car 1)", "(car)", "(* 1099511627776 2)", "(1)", "(set! nowhere 1)"} {
		for _, got := range byAll(script("(begin (display 'out) 5 " + last + ")")) {
			if got[0].Code == api.OK || got[0].Output != "out" || got[0].Value != "" {
				t.Errorf("%s: %+v", last, got)
			}
		}
	}
	for fuel := range 8 {
		for _, got := range byAll([]api.Input{{Text: "(begin (display 'out) 5)", Fuel: fuel}, {Text: "(begin (display 'out) 5)", Fuel: fuel}}) {
			for _, o := range got {
				if o.Code != api.OK && o.Value != "" {
					t.Errorf("with %d: %+v", fuel, got)
				}
			}
		}
	}
}

// Every row of few tokens, run behind a script and traced, is answered as it
// is checked, or with an error of running.
func TestP1AnyTokensAreAnswered(t *testing.T) {
	tokens := []string{"(", ")", "'", "#f", "1", "x", "car", "call/cc", "quote", "if", "lambda", "set!", "define", "begin", "let"}
	var all func(text string, more int)
	all = func(text string, more int) {
		wantAnswered(t, text)
		if more == 0 {
			return
		}
		for _, token := range tokens {
			all(text+token+" ", more-1)
		}
	}
	all("", 4)
}

func wantAnswered(t *testing.T, text string) {
	checked := Check(text)
	lines, code := Trace(nil, text, 9)
	got := Slow([]api.Input{{Text: text, Fuel: 9}})[0]
	if code != checked || (len(lines) > 0) != (checked == api.OK) {
		t.Errorf("Trace(%q) = %+v, %d", text, lines, code)
	}
	if checked != api.OK && got != (api.Outcome{Code: checked}) || checked == api.OK && got.Code != api.OK && got.Code < api.ErrFuel {
		t.Errorf("Slow(%q) = %+v, Check %d", text, got, checked)
	}
	wantFast(t, []api.Input{{Text: text, Fuel: 9}})
}

// Frames, pairs and surroundings as many as the fuel makes.
func TestP1DeepThingsEnd(t *testing.T) {
	for _, loop := range []string{
		"(define l (lambda (n) (+ 1 (l n))))",
		"(define l (lambda (n) (l (cons n 1))))",
		"(define l (lambda (n) (l (cons 1 n))))",
		"(define l (lambda (n) (l (cons n n))))",
		"(define l (lambda (n) (l (lambda () n))))",
		"(define l (lambda (n) (l (call/cc (lambda (k) k)))))",
		"(define l (lambda (n) (cons (call/cc l) n)))",
	} {
		bySlow, byFast := Both([]api.Input{{Text: loop, Fuel: 3}, {Text: "(define x 1)", Fuel: 3}, {Text: "(l 1)", Fuel: api.MaxFuel}, {Text: "x", Fuel: 1}})
		if bySlow[2] != (api.Outcome{Code: api.ErrFuel}) || bySlow[3].Value != "1" {
			t.Errorf("%s: %+v", loop, bySlow)
		}
		if byFast[2] != (api.Outcome{Code: api.ErrFuel}) || byFast[3] != (api.Outcome{Code: api.ErrFuel}) {
			t.Errorf("%s: %+v", loop, byFast)
		}
	}
}

func lively() []api.Input {
	return script("(define k 0)", "(define x '(1 2))", "(begin (display x) (set! + -) (+ 5 (call/cc (lambda (c) (begin (set! k c) 1)))))", "(k 3)", "(define car cdr)", "(car x)", "nowhere", "(", "(lambda (x) x)")
}

func TestP2NothingIsKeptFromCallToCall(t *testing.T) {
	first := byAll(lively())
	lines, _ := Trace(lively(), "(cons + (car x))", 99)
	for range 3 {
		for i, again := range byAll(lively()) {
			if !slices.Equal(first[i], again) {
				t.Errorf("first %+v, then %+v", first[i], again)
			}
		}
		if again, _ := Trace(lively(), "(cons + (car x))", 99); !slices.Equal(lines, again) {
			t.Errorf("first %+v, then %+v", lines, again)
		}
	}
	wantSession(t, fails("k", api.ErrUnbound), fails("x", api.ErrUnbound), gives("(+ 1 2)", "3"), gives("(car '(1 2))", "1"))
	wantTrace(t, nil, "k", work("k", 0))
}

// However the engines get ahead of one another, the answers are the same.
func TestP2CallsAtTheSameTime(t *testing.T) {
	want := byAll(lively())
	answers := make(chan [][]api.Outcome)
	for range 8 {
		go func() {
			for range 20 {
				answers <- byAll(lively())
			}
		}()
	}
	for range 8 * 20 {
		for i, got := range <-answers {
			if !slices.Equal(got, want[i]) {
				t.Errorf("%+v, want %+v", got, want[i])
			}
		}
	}
}

func TestP2WhatIsHandedInStays(t *testing.T) {
	room := append(lively(), lively()...)
	before := slices.Clone(room)
	handed := room[:len(room)/2]
	byAll(handed)
	Trace(handed, "(k 5)", 99)
	if !slices.Equal(room, before) {
		t.Errorf("%+v, before %+v", room, before)
	}
}

// Each list is written over, its spare room too, and all others stay.
func TestP2EveryListIsNew(t *testing.T) {
	want := Slow(lively())
	lists := append(byAll(lively()), byAll(lively())...)
	for i, list := range lists {
		for j := range list[:cap(list)] {
			list[:cap(list)][j] = api.Outcome{Value: "zzz"}
		}
		for _, other := range append(lists[i+1:], Slow(lively()), Fast(lively())) {
			if !slices.Equal(other, want) {
				t.Fatalf("%+v behind writing, want %+v", other, want)
			}
		}
	}
	lines, _ := Trace(nil, "(+ 1 2)", 99)
	others, _ := Trace(nil, "(+ 1 2)", 99)
	wantLines := slices.Clone(others)
	for i := range lines {
		lines[i] = api.Line{What: -1}
	}
	again, _ := Trace(nil, "(+ 1 2)", 99)
	if !slices.Equal(others, wantLines) || !slices.Equal(again, wantLines) {
		t.Error("writing into one trace is seen in another one")
	}
}
