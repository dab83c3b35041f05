package stepper

import (
	"slices"
	"strings"
	"testing"

	"stepper/api"
)

func wantBoth(t *testing.T, script []api.Input) {
	t.Helper()
	bySlow, byFast := Both(script)
	if want := Slow(script); !slices.Equal(bySlow, want) {
		t.Errorf("Both of %+v: %+v by the slow engine, want %+v", script, bySlow, want)
	}
	if want := Fast(script); !slices.Equal(byFast, want) {
		t.Errorf("Both of %+v: %+v by the fast engine, want %+v", script, byFast, want)
	}
}

func TestP7NoScriptNoOutcome(t *testing.T) {
	for _, script := range [][]api.Input{nil, {}} {
		if bySlow, byFast := Both(script); len(bySlow) != 0 || len(byFast) != 0 {
			t.Errorf("%+v, %+v", bySlow, byFast)
		}
	}
}

// Behind an ErrFuel the slow engine goes on and the fast one does not.
func TestP7WhatEachEngineAnswers(t *testing.T) {
	bySlow, byFast := Both([]api.Input{{Text: "(define l (lambda (n) (l n)))", Fuel: 3}, {Text: "(define x 5)", Fuel: 3}, {Text: "(l 1)", Fuel: 100}, {Text: "(begin (display x) x)", Fuel: 99}, {Text: "(", Fuel: 9}, {Text: "x", Fuel: -1}})
	wantSlow := []api.Outcome{{}, {}, {Code: api.ErrFuel}, {Output: "5", Value: "5"}, {Code: api.ErrText}, {Code: api.ErrOver}}
	wantFast := []api.Outcome{{}, {}, {Code: api.ErrFuel}, {Code: api.ErrFuel}, {Code: api.ErrText}, {Code: api.ErrOver}}
	if !slices.Equal(bySlow, wantSlow) || !slices.Equal(byFast, wantFast) {
		t.Errorf("%+v, %+v", bySlow, byFast)
	}
}

// One engine's definitions, places and output are not the other one's, though
// they have their names in one table.
func TestP7TheEnginesHaveNothingButNamesInCommon(t *testing.T) {
	var inputs []api.Input
	for range 50 {
		inputs = append(inputs, script("(define n 0)", "(define up (lambda () (begin (set! n (+ n 1)) (display n) n)))", "(up)", "(up)", "(set! car cdr)", "(car '(1 2))", "(define car null?)", "(car '())", "(set! m 1)", "'m")...)
	}
	want := []api.Outcome{{}, {}, {Output: "1", Value: "1"}, {Output: "2", Value: "2"}, {}, {Value: "(2)"}, {}, {Value: "#t"}, {Code: api.ErrUnbound}, {Value: "m"}}
	bySlow, byFast := Both(inputs)
	if !slices.Equal(bySlow[:10], want) || !slices.Equal(byFast[:10], want) {
		t.Errorf("%+v, %+v", bySlow[:10], byFast[:10])
	}
	wantBoth(t, inputs)
}

// The engines come upon many new names at the same time, each in its own
// order.
func TestP7ManyNames(t *testing.T) {
	var inputs []api.Input
	for i := range 300 {
		name := strings.Repeat(string(rune('a'+i%26)), 1+i/26)
		inputs = append(inputs, script("(define "+name+" '"+name+")", "(cons "+name+" (lambda (z"+name+") 1))", "(begin "+name+"! 1)")...)
	}
	bySlow, byFast := Both(inputs)
	for i := range 300 {
		name := strings.Repeat(string(rune('a'+i%26)), 1+i/26)
		want := []api.Outcome{{}, {Value: "(" + name + " . #procedure)"}, {Code: api.ErrUnbound}}
		if !slices.Equal(bySlow[3*i:3*i+3], want) || !slices.Equal(byFast[3*i:3*i+3], want) {
			t.Fatalf("%s: %+v, %+v", name, bySlow[3*i:3*i+3], byFast[3*i:3*i+3])
		}
	}
}
