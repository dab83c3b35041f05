package stepper

import (
	"strings"
	"testing"

	"stepper/api"
)

func TestP4AContinuationLeavesTheFramesThatThereAre(t *testing.T) {
	wantSession(t, gives("(call/cc (lambda (k) (+ 1 (k 5))))", "5"), gives("(+ 1 (call/cc (lambda (k) (* 100 (k 5)))))", "6"), gives("(+ 1 (call/cc (lambda (k) 5)))", "6"),
		shows("(call/cc (lambda (k) (begin (display 1) (k 7) (display 2))))", "1", "7"), gives("(define x 1)", ""), gives("(call/cc (lambda (k) (set! x (k 7))))", "7"), gives("x", "1"),
		gives("(call/cc (lambda (k) (if (k 3) 1 2)))", "3"), gives("(call/cc (lambda (k) ((k 4) (car 1))))", "4"))
}

func TestP4CallCCAppliesWhateverCanBeApplied(t *testing.T) {
	wantSession(t, shows("(call/cc display)", "#procedure", ""), gives("(call/cc pair?)", "#f"), gives("(call/cc null?)", "#f"), fails("(call/cc car)", api.ErrType), fails("(call/cc +)", api.ErrArity),
		fails("(call/cc cons)", api.ErrArity), fails("(call/cc (lambda () 1))", api.ErrArity), fails("(call/cc (lambda (a b) 1))", api.ErrArity), fails("(call/cc 5)", api.ErrType),
		gives("(call/cc call/cc)", "#procedure"), gives("((call/cc call/cc) (lambda (x) 5))", "5"), gives("(call/cc (lambda (k) (call/cc k)))", "#procedure"),
		gives("(pair? (call/cc (lambda (k) (call/cc k))))", "#f"))
}

func TestP4AContinuationTakesOneValue(t *testing.T) {
	wantSession(t, gives("(define k (call/cc (lambda (c) c)))", ""), fails("(k)", api.ErrArity), fails("(k 1 2)", api.ErrArity), gives("(k 1)", ""), gives("k", "1"))
}

func TestP4ALaterInputEntersEachKindOfFrame(t *testing.T) {
	const keep = "(call/cc (lambda (c) (begin (set! k c) 1)))"
	begin := gives("(define k 0)", "")
	wantSession(t, begin, gives("(cons 'a "+keep+")", "(a . 1)"), gives("(k 5)", "(a . 5)"), gives("(k '(5))", "(a 5)"))
	wantSession(t, begin, gives("((call/cc (lambda (c) (begin (set! k c) car))) '(8 9))", "8"), gives("(k cdr)", "(9)"), fails("(k 3)", api.ErrType))
	wantSession(t, begin, gives("(if "+keep+" 'yes 'no)", "yes"), gives("(k #f)", "no"), gives("(k 0)", "yes"))
	wantSession(t, begin, gives("(define x "+keep+")", ""), gives("x", "1"), gives("(k 5)", ""), gives("x", "5"))
	wantSession(t, begin, gives("(define x 0)", ""), gives("(set! x "+keep+")", ""), gives("(k 5)", ""), gives("x", "5"))
	wantSession(t, begin, gives("(begin "+keep+" 'next)", "next"), gives("(k 5)", "next"))
	wantSession(t, begin, shows("(begin (display 'a) "+keep+" (display 'b) (display 'c))", "abc", ""), shows("(k 5)", "bc", ""), shows("(begin (display 1) (k 5))", "1bc", ""))
	wantSession(t, begin, gives(keep, "1"), gives("(k 5)", "5"), gives("(+ 1 (k 5))", "5"))
}

// A call that is entered again has the values of its first time, whatever came
// behind them.
func TestP4ACallThatIsEnteredAgainHasItsFirstValues(t *testing.T) {
	wantSession(t, gives("(define k 0)", ""), gives("(define list (lambda (a b c d) (cons a (cons b (cons c (cons d '()))))))", ""),
		gives("(list 1 (call/cc (lambda (c) (begin (set! k c) 2))) 3 4)", "(1 2 3 4)"), gives("(define a (list 5 6 7 8))", ""),
		gives("(k 'x)", "(1 x 3 4)"), gives("(k 'y)", "(1 y 3 4)"), gives("a", "(5 6 7 8)"))
	wantSession(t, gives("(define k 0)", ""), gives("(define j 0)", ""), gives("(define make (lambda (a b) (lambda (m) (if m (set! a m) (cons a b)))))", ""),
		gives("(define f (make (call/cc (lambda (c) (begin (set! k c) 1))) (call/cc (lambda (c) (begin (set! j c) 2)))))", ""),
		gives("(f 9)", ""), gives("(f #f)", "(9 . 2)"), gives("(j 3)", ""), gives("(f #f)", "(1 . 3)"), gives("(k 4)", ""), gives("(f #f)", "(4 . 2)"))
}

// However many values a call has when it is entered again, the procedures that
// it has made stay as they are.
func TestP4EachEntryOfACallMakesNewPlaces(t *testing.T) {
	for n := range 9 {
		names, values := "", ""
		for i := range n {
			names += string(rune('a'+i)) + " "
			values += "0 "
		}
		wantSession(t, gives("(define k 0)", ""), gives("(define all '())", ""),
			gives("(define make (lambda ("+names+"z) (lambda (m) (if m (set! z m) z))))", ""),
			gives("(set! all (cons (make "+values+"(call/cc (lambda (c) (begin (set! k c) 1)))) '()))", ""),
			gives("(define one (car all))", ""), gives("(k 2)", ""), gives("(define two (car all))", ""), gives("(cons (one #f) (two #f))", "(1 . 2)"),
			gives("(one 5)", ""), gives("(k 3)", ""), gives("(cons (one #f) (cons (two #f) ((car all) #f)))", "(5 2 . 3)"))
	}
}

func TestP4AContinuationKeepsFramesNotPlaces(t *testing.T) {
	wantSession(t, gives("(define k 0)", ""), gives("(define n 0)", ""),
		shows("(let ((x 1)) (begin (call/cc (lambda (c) (set! k c))) (set! x (+ x 1)) (set! n (+ n 1)) (display x) (if (< x 4) (k 0) x)))", "234", "4"),
		gives("n", "3"), shows("(k 0)", "5", "5"), shows("(k 0)", "6", "6"), gives("n", "5"))
}

func TestP4AContinuationOfAnInputThatFailed(t *testing.T) {
	wantSession(t, gives("(define k 0)", ""), fails("(car (call/cc (lambda (c) (begin (set! k c) 1))))", api.ErrType), gives("(k '(7))", "7"), fails("(k 7)", api.ErrType),
		fails("(begin (+ (call/cc (lambda (c) (begin (set! k c) 1))) 2) nowhere)", api.ErrUnbound), gives("(define nowhere 'here)", ""), gives("(k 1)", "here"))
	wantOutcomes(t, []api.Input{{Text: "(define k 0)", Fuel: 3}, {Text: "(+ 1 (call/cc (lambda (c) (begin (set! k c) 1))))", Fuel: 14}, {Text: "(k 5)", Fuel: 6}, {Text: "(k 5)", Fuel: 5}},
		[]api.Outcome{{}, {Code: api.ErrFuel}, {Value: "6"}, {Code: api.ErrFuel}})
}

// The fuel and the room for output are those of the input that enters, not of
// the one that has kept the continuation.
func TestP4AnEnteredContinuationIsOfTheLaterInput(t *testing.T) {
	wantOutcomes(t, []api.Input{{Text: "(define k 0)", Fuel: 3}, {Text: "(begin (call/cc (lambda (c) (set! k c))) (display 1) (k 0))", Fuel: 40}, {Text: "(k 0)", Fuel: 10}, {Text: "(k 0)", Fuel: 11}, {Text: "(k 0)", Fuel: 22}, {Text: "(k 0)", Fuel: 23}},
		[]api.Outcome{{}, {Code: api.ErrFuel, Output: "111"}, {Code: api.ErrFuel}, {Code: api.ErrFuel, Output: "1"}, {Code: api.ErrFuel, Output: "1"}, {Code: api.ErrFuel, Output: "11"}})
	full := strings.Repeat("12345678", api.MaxOutput/8)
	wantSession(t, gives("(define k 0)", ""), said{"(begin (call/cc (lambda (c) (set! k c))) (display 12345678) (k 0))", api.Outcome{Code: api.ErrBig, Output: full}},
		said{"(k 0)", api.Outcome{Code: api.ErrBig, Output: full}}, said{"(begin (display 'a) (k 0))", api.Outcome{Code: api.ErrBig, Output: "a" + full[:992]}})
}
