package stepper

import (
	"slices"
	"strings"
	"testing"

	"stepper/api"
)

func work(text string, frames int) api.Line {
	return api.Line{What: api.Work, Text: text, Frames: frames}
}

func given(text string, frames int) api.Line {
	return api.Line{What: api.Give, Text: text, Frames: frames}
}

func script(texts ...string) []api.Input {
	var inputs []api.Input
	for _, text := range texts {
		inputs = append(inputs, api.Input{Text: text, Fuel: enough})
	}
	return inputs
}

// wantTrace asks for all states, for each number that is less, and for more.
func wantTrace(t *testing.T, before []api.Input, text string, want ...api.Line) {
	t.Helper()
	for n := range len(want) + 2 {
		got, code := Trace(before, text, n)
		if code != api.OK || !slices.Equal(got, want[:min(n, len(want))]) {
			t.Errorf("Trace of %q, %d: %+v, %d, want %+v", text, n, got, code, want[:min(n, len(want))])
			return
		}
	}
}

func TestP5EachKindOfForm(t *testing.T) {
	wantTrace(t, nil, "007", work("7", 0), given("7", 0))
	wantTrace(t, nil, "'a", work("(quote a)", 0), given("a", 0))
	wantTrace(t, nil, "(lambda (x) 'x)", work("(lambda (x) (quote x))", 0), given("#procedure", 0))
	wantTrace(t, nil, "(+ 1 2)", work("(+ 1 2)", 0), work("+", 1), given("#procedure", 1), work("1", 1), given("1", 1), work("2", 1), given("2", 1), given("3", 0))
	wantTrace(t, nil, "(if #f 1 'b)", work("(if #f 1 (quote b))", 0), work("#f", 1), given("#f", 1), work("(quote b)", 0), given("b", 0))
	wantTrace(t, nil, "(begin 1)", work("(begin 1)", 0), work("1", 0), given("1", 0))
	wantTrace(t, nil, "(begin 1 2 3)", work("(begin 1 2 3)", 0), work("1", 1), given("1", 1), work("2", 1), given("2", 1), work("3", 0), given("3", 0))
	wantTrace(t, nil, "(set! car '())", work("(set! car (quote ()))", 0), work("(quote ())", 1), given("()", 1), given("", 0))
	wantTrace(t, nil, "(define x #t)", work("(define x #t)", 0), work("#t", 1), given("#t", 1), given("", 0))
	wantTrace(t, nil, "((lambda () 5))", work("((lambda () 5))", 0), work("(lambda () 5)", 1), given("#procedure", 1), work("5", 0), given("5", 0))
}

func TestP5ALetIsToldAsWhatItIsTheSameAs(t *testing.T) {
	wantTrace(t, nil, "(let ((x 1)) (let () x))", work("((lambda (x) ((lambda () x))) 1)", 0), work("(lambda (x) ((lambda () x)))", 1), given("#procedure", 1), work("1", 1), given("1", 1),
		work("((lambda () x))", 0), work("(lambda () x)", 1), given("#procedure", 1), work("x", 0), given("1", 0))
}

func TestP5FramesInOneAnother(t *testing.T) {
	wantTrace(t, nil, "(car (begin (if 1 '(2) 3) (cons 4 5)))", work("(car (begin (if 1 (quote (2)) 3) (cons 4 5)))", 0), work("car", 1), given("#procedure", 1),
		work("(begin (if 1 (quote (2)) 3) (cons 4 5))", 1), work("(if 1 (quote (2)) 3)", 2), work("1", 3), given("1", 3), work("(quote (2))", 2), given("(2)", 2),
		work("(cons 4 5)", 1), work("cons", 2), given("#procedure", 2), work("4", 2), given("4", 2), work("5", 2), given("5", 2), given("(4 . 5)", 1), given("4", 0))
}

func TestP5Continuations(t *testing.T) {
	wantTrace(t, nil, "(+ 1 (call/cc (lambda (k) (k 5))))", work("(+ 1 (call/cc (lambda (k) (k 5))))", 0), work("+", 1), given("#procedure", 1), work("1", 1), given("1", 1),
		work("(call/cc (lambda (k) (k 5)))", 1), work("call/cc", 2), given("#procedure", 2), work("(lambda (k) (k 5))", 2), given("#procedure", 2),
		work("(k 5)", 1), work("k", 2), given("#procedure", 2), work("5", 2), given("5", 2), given("5", 1), given("6", 0))
	wantTrace(t, nil, "(call/cc call/cc)", work("(call/cc call/cc)", 0), work("call/cc", 1), given("#procedure", 1), work("call/cc", 1), given("#procedure", 1), given("#procedure", 0))
	wantTrace(t, script("(define k 0)", "(car (cdr (call/cc (lambda (c) (begin (set! k c) '(1 2))))))"), "(k '(3 4))",
		work("(k (quote (3 4)))", 0), work("k", 1), given("#procedure", 1), work("(quote (3 4))", 1), given("(3 4)", 1), given("(3 4)", 2), given("(4)", 1), given("4", 0))
}

func TestP5AStepThatIsAnErrorHasNoState(t *testing.T) {
	wantTrace(t, nil, "x", work("x", 0))
	wantTrace(t, nil, "(car 1)", work("(car 1)", 0), work("car", 1), given("#procedure", 1), work("1", 1), given("1", 1))
	wantTrace(t, nil, "(set! x 1)", work("(set! x 1)", 0), work("1", 1), given("1", 1))
	wantTrace(t, nil, "(1)", work("(1)", 0), work("1", 1), given("1", 1))
}

func TestP5TheScriptIsRunAsBySlow(t *testing.T) {
	before := []api.Input{{Text: "(define x 5)", Fuel: 3}, {Text: "(define x 6)", Fuel: 2}, {Text: "(set! x 7)", Fuel: -1}, {Text: "(set! x 8", Fuel: 9},
		{Text: "(begin (set! x 9) (car x))", Fuel: 99}, {Text: "(begin (display x) (set! x 10))", Fuel: 7}}
	wantTrace(t, before, "x", work("x", 0), given("9", 0))
	wantTrace(t, nil, "x", work("x", 0))
}

// The script's output takes no room from the traced input's, which has as much
// as any.
func TestP5TheOutputOfATracedInput(t *testing.T) {
	before := script("(define show (lambda (n) (if (= n 0) 0 (begin (display 12345678) (show (- n 1))))))", "(show 125)")
	full, code := Trace(before, "(show 125)", enough)
	if last := full[len(full)-1]; code != api.OK || last != given("0", 0) {
		t.Errorf("%+v, %d", last, code)
	}
	over, code := Trace(before, "(show 126)", enough)
	if last := over[len(over)-1]; code != api.OK || last.What != api.Give || last.Text != "12345678" {
		t.Errorf("%+v, %d", last, code)
	}
}

func TestP5TextsAreCut(t *testing.T) {
	name := strings.Repeat("a", 290)
	wantTrace(t, nil, name, work(name[:200]+"..", 0))
	wantTrace(t, nil, "'"+name[:192], work("(quote "+name[:192]+")", 0), given(name[:192], 0))
	wantTrace(t, nil, "'"+name[:193], work("(quote "+name[:193]+"..", 0), given(name[:193], 0))
	wantTrace(t, nil, "'"+name, work("(quote "+name[:193]+"..", 0), given(name[:200]+"..", 0))
	wantTrace(t, script("(define x 'a)", "(define d (lambda (n) (if (= n 0) 0 (begin (set! x (cons x x)) (d (- n 1))))))", "(d 1000)"), "x", work("x", 0), given(strings.Repeat("(", 200)+"..", 0))
}

func TestP5ErrorsAheadOfTheStates(t *testing.T) {
	for _, c := range []struct {
		text string
		n    int
		want api.Errno
	}{
		{"1", -1, api.ErrOver}, {"(", -1, api.ErrOver}, {"1", -1 << 63, api.ErrOver}, {"1", api.MaxFuel + 1, api.ErrOver}, {"()", api.MaxFuel + 1, api.ErrOver}, {"1", 1<<63 - 1, api.ErrOver},
		{filled("1", 301), 5, api.ErrLong}, {"(", 5, api.ErrText}, {"", 0, api.ErrText}, {begins(21), 5, api.ErrDepth}, {"1099511627777", 5, api.ErrNumber}, {"()", 0, api.ErrForm}, {"(f (define x 1))", api.MaxFuel, api.ErrForm},
	} {
		if lines, code := Trace(script("(define x 1)"), c.text, c.n); len(lines) != 0 || code != c.want {
			t.Errorf("Trace of %.80q, %d: %+v, %d, want %d", c.text, c.n, lines, code, c.want)
		}
	}
}

func TestP5OneStateMoreThanSteps(t *testing.T) {
	for _, c := range countedInputs() {
		if lines, code := Trace(nil, c.text, api.MaxFuel); code != api.OK || len(lines) != c.steps+1 {
			t.Errorf("Trace of %q: %d states, %d, want %d", c.text, len(lines), code, c.steps+1)
		}
	}
}

func TestP5MaxFuelStates(t *testing.T) {
	lines, code := Trace(script("(define l (lambda (n) (l n)))"), "(l 1)", api.MaxFuel)
	if code != api.OK || len(lines) != api.MaxFuel {
		t.Fatalf("%d states, %d", len(lines), code)
	}
	round := []api.Line{work("(l n)", 0), work("l", 1), given("#procedure", 1), work("n", 1), given("1", 1)}
	for i, line := range lines[5:] {
		if line != round[i%5] {
			t.Fatalf("state %d: %+v, want %+v", i+5, line, round[i%5])
		}
	}
}
