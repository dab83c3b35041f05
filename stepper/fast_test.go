package stepper

import (
	"slices"
	"strconv"
	"strings"
	"testing"

	"stepper/api"
)

// wantFast holds Fast against Slow, as P6 has it.
func wantFast(t *testing.T, script []api.Input) {
	t.Helper()
	got := Fast(script)
	if len(got) != len(script) {
		t.Fatalf("%d outcomes by Fast of %d inputs", len(got), len(script))
	}
	// given has the fuel that Fast has taken for each input.
	given := slices.Clone(script)
	bySlow := Slow(given)
	for i := range script {
		if bySlow[i].Code == api.ErrFuel {
			given[i].Fuel = atMost(script[i].Fuel)
			bySlow = Slow(given)
			if got[i].Code == api.ErrFuel {
				wantSpent(t, script[i:], bySlow[i].Output, got[i:])
				return
			}
		}
		if got[i] != bySlow[i] {
			t.Errorf("input %d of %+v: %+v by Fast, want %+v", i, script, got[i], bySlow[i])
			return
		}
	}
}

// atMost is how many steps Fast may take, as far as Slow can take them too.
func atMost(fuel int) int { return min(api.Slack*fuel+api.Start, api.MaxFuel) }

// wantSpent asks for what is answered from the first ErrFuel on.
func wantSpent(t *testing.T, script []api.Input, displayed string, got []api.Outcome) {
	t.Helper()
	if got[0].Value != "" || !strings.HasPrefix(displayed, got[0].Output) {
		t.Errorf("%+v: %+v, where Slow displays %q", script[0], got[0], displayed)
	}
	for i, in := range script[1:] {
		want := api.Outcome{Code: api.ErrFuel}
		if in.Fuel < 0 || in.Fuel > api.MaxFuel {
			want.Code = api.ErrOver
		} else if code := Check(in.Text); code != api.OK {
			want.Code = code
		}
		if got[i+1] != want {
			t.Errorf("%+v behind an ErrFuel: %+v, want %+v", in, got[i+1], want)
		}
	}
}

func TestP6NoScriptNoOutcome(t *testing.T) {
	for _, script := range [][]api.Input{nil, {}} {
		if got := Fast(script); len(got) != 0 {
			t.Errorf("%+v", got)
		}
	}
}

func TestP6FuelJustEnough(t *testing.T) {
	for _, c := range countedInputs() {
		script := []api.Input{{Text: c.text, Fuel: c.steps}, {Text: "(+ 1 2)", Fuel: 7}}
		if got, want := Fast(script), Slow(script); !slices.Equal(got, want) || got[1].Value != "3" && c.text != "(set! car 1)" {
			t.Errorf("%q with %d: %+v, want %+v", c.text, c.steps, got, want)
		}
	}
	for _, c := range countedFaults() {
		script := []api.Input{{Text: c.text, Fuel: c.steps}, {Text: "(+ 1 2)", Fuel: 7}}
		if got := Fast(script); got[0] != (api.Outcome{Code: c.code}) || got[1].Value != "3" {
			t.Errorf("%q with %d: %+v, want %d", c.text, c.steps, got, c.code)
		}
	}
}

// With any fuel that is too little the answer is ErrFuel, or as with more, and
// what follows goes on from there.
func TestP6AnInputThatEndsBehindItsFuel(t *testing.T) {
	behind := []api.Input{{Text: "x", Fuel: 1}, {Text: "(", Fuel: 1}, {Text: "x", Fuel: -1}, {Text: "(begin (display x) (set! x 3))", Fuel: 4}, {Text: "x", Fuel: 9}, {Text: "(car x)", Fuel: 5}}
	for _, text := range []string{"(begin (set! x 2) (display 'a) x)", "(let ((y 2)) (begin (display y) (set! x y) (display x)))", "(let ((f (lambda (y) (begin (set! x y) (display y))))) (begin (f 2) (f 3) (car x)))",
		"(begin (call/cc (lambda (k) (set! x k))) (display 1))", "(begin (set! x 5) nowhere)", "(define x (begin (display 1) 2))", "(begin (set! display car) (display '(1)))"} {
		for fuel := range 60 {
			script := append([]api.Input{{Text: "(define x 1)", Fuel: 3}, {Text: text, Fuel: fuel}}, behind...)
			wantFast(t, script)
			wantFast(t, slices.Concat(script, script))
		}
	}
}

// (l n) takes 15 steps and 20 for each n.
func TestP6NoMoreThanSlackTimesTheFuelAndStart(t *testing.T) {
	loop := api.Input{Text: "(define l (lambda (n) (if (= n 0) 'end (l (- n 1)))))", Fuel: 3}
	for _, fuel := range []int{0, 1, 2, 10} {
		most := atMost(fuel)
		for _, n := range []int{most/20 - 2, most/20 - 1, most / 20, most/20 + 1} {
			wantFast(t, []api.Input{loop, {Text: "(l " + strconv.Itoa(n) + ")", Fuel: fuel}, {Text: "1", Fuel: 1}})
		}
		if got := Fast([]api.Input{loop, {Text: "(l " + strconv.Itoa(most/20) + ")", Fuel: fuel}}); got[1].Code != api.ErrFuel {
			t.Errorf("with %d: %+v", fuel, got)
		}
	}
}

func TestP6JustMaxFuelSteps(t *testing.T) {
	loop := api.Input{Text: "(define l (lambda (n) (if (= n 0) 'end (l (- n 1)))))", Fuel: 3}
	got := Fast([]api.Input{loop, {Text: "(begin (begin (begin (begin (begin (l 49999))))))", Fuel: api.MaxFuel}})
	if got[1] != (api.Outcome{Value: "end"}) {
		t.Errorf("%+v", got)
	}
}

func TestP6AFuelThatMayNotBe(t *testing.T) {
	for _, fuel := range []int{-1 << 63, -1, api.MaxFuel + 1, 1<<63 - 1} {
		got := Fast([]api.Input{{Text: "(define x 1)", Fuel: fuel}, {Text: "(", Fuel: fuel}, {Text: "x", Fuel: api.MaxFuel}, {Text: "5", Fuel: 1}})
		want := []api.Outcome{{Code: api.ErrOver}, {Code: api.ErrOver}, {Code: api.ErrUnbound}, {Value: "5"}}
		if !slices.Equal(got, want) {
			t.Errorf("%d: %+v", fuel, got)
		}
	}
}

// What does not end is ErrFuel with any fuel, and so is all that follows.
func TestP6AnInputThatDoesNotEnd(t *testing.T) {
	for _, loop := range []string{
		"(define l (lambda (n) (l n)))",
		"(define l (lambda (n) (begin 1 2 (if n (l n) 3))))",
		"(define l (lambda (n) (+ 1 (l n))))",
		"(define l (lambda (n) (let ((m n)) (begin (display (set! n m)) (l m)))))",
		"(define l (lambda (n) (l (call/cc (lambda (k) (k n))))))",
		"(define l (lambda (n) ((call/cc call/cc) (call/cc call/cc))))",
		"(define l (lambda (n) (let ((k (call/cc (lambda (c) c)))) (k k))))",
		"(define l (lambda (n) (begin (set! + -) (+ 1 2) (set! + *) (l n))))",
	} {
		for _, fuel := range []int{0, 1, 5, 6, 7, 50, 990, 100000, api.MaxFuel} {
			script := []api.Input{{Text: loop, Fuel: 3}, {Text: "(define x 5)", Fuel: 3}, {Text: "(l 1)", Fuel: fuel}, {Text: "x", Fuel: 9}, {Text: "(display x)", Fuel: api.MaxFuel}, {Text: "x", Fuel: 0}, {Text: "(if)", Fuel: 9},
				{Text: "x", Fuel: -1}, {Text: "(", Fuel: api.MaxFuel + 1}, {Text: "nowhere", Fuel: 9}}
			spent := api.Outcome{Code: api.ErrFuel}
			want := []api.Outcome{{}, {}, spent, spent, spent, spent, {Code: api.ErrForm}, {Code: api.ErrOver}, {Code: api.ErrOver}, spent}
			if got := Fast(script); !slices.Equal(got, want) {
				t.Errorf("%s with %d: %+v", loop, fuel, got)
			}
		}
	}
}

// w waits for some steps ahead of each display.
func TestP6SomeBeginningOfWhatIsDisplayed(t *testing.T) {
	before := []api.Input{{Text: "(define w (lambda (n) (if (= n 0) 0 (w (- n 1)))))", Fuel: 3}, {Text: "(define l (lambda (n) (begin (w 40) (display n) (l (+ n 1)))))", Fuel: 3}}
	for _, fuel := range []int{0, 1, 100, 900, 990} {
		script := append(slices.Clone(before), api.Input{Text: "(l 10)", Fuel: fuel}, api.Input{Text: "1", Fuel: 9})
		wantFast(t, script)
	}
	got := Fast(append(slices.Clone(before), api.Input{Text: "(begin (display 'a) (w 1000000))", Fuel: 1000}))
	if got[2].Code != api.ErrFuel || got[2].Output != "" && got[2].Output != "a" {
		t.Errorf("%+v", got)
	}
}

func TestP6APrimitivesGlobalIsDefinedAnew(t *testing.T) {
	wantSession(t, gives("(define f (lambda (x) (+ x 1)))", ""), gives("(f 5)", "6"), gives("(define + -)", ""), gives("(f 5)", "4"), gives("(+ 9 2)", "7"),
		gives("(set! + cons)", ""), gives("(f 5)", "(5 . 1)"), gives("(define + (lambda (a b) a))", ""), gives("(f 5)", "5"), gives("(set! + 3)", ""), fails("(f 5)", api.ErrType), gives("(define + car)", ""), fails("(f 5)", api.ErrArity),
		gives("(define + call/cc)", ""), fails("(f 5)", api.ErrArity), gives("(define + (call/cc (lambda (k) k)))", ""), fails("(f 5)", api.ErrArity))
	for _, p := range []string{"+", "-", "*", "<", "=", "cons", "eq?"} {
		wantSession(t, gives("(define old "+p+")", ""), gives("(define f (lambda (x y) ("+p+" x y)))", ""), gives("(define first (f 6 3))", ""), gives("(define "+p+" (lambda (x y) (car x)))", ""),
			gives("(f '(7) 3)", "7"), fails("(f 6 3)", api.ErrType), gives("(set! "+p+" old)", ""), gives("(pair? (cons first (f 6 3)))", "#t"), gives("(define "+p+" 1)", ""), fails("(f 6 3)", api.ErrType))
	}
	for _, p := range []string{"car", "cdr", "null?", "pair?", "display"} {
		wantSession(t, gives("(define old "+p+")", ""), gives("(define f (lambda (x) ("+p+" x)))", ""), said{"(f '(1 2))", Slow(script("(" + p + " '(1 2))"))[0]},
			gives("(define "+p+" (lambda (x) 'anew))", ""), gives("(f '(1 2))", "anew"), gives("(set! "+p+" old)", ""), said{"(f '(1 2))", Slow(script("(" + p + " '(1 2))"))[0]},
			gives("(define "+p+" +)", ""), fails("(f '(1 2))", api.ErrArity))
	}
	wantSession(t, gives("(define f (lambda (x) (call/cc x)))", ""), gives("(f pair?)", "#f"), gives("(define call/cc (lambda (x) 5))", ""), gives("(f pair?)", "5"), gives("(define call/cc car)", ""), gives("(f '(1))", "1"))
}

func TestP6AGlobalIsSetInTheMidstOfAForm(t *testing.T) {
	wantSession(t, gives("(begin (set! + *) (+ 3 4))", "12"), gives("(+ 3 (begin (set! + -) 4))", "12"), gives("(+ 3 4)", "-1"))
	wantSession(t, gives("(+ (begin (set! + -) (+ 5 3)) (+ 9 (begin (set! + *) (+ 2 2))))", "7"), gives("(+ 2 3)", "6"))
	wantSession(t, gives("(define p +)", ""), gives("(begin (set! + -) (set! - p) (cons (+ 5 3) (begin (set! + p) (+ 5 3))))", "(2 . 8)"), gives("(- 5 3)", "8"))
	wantSession(t, gives("(define f (lambda (x) (begin (set! car x) (car '(1 2)))))", ""), gives("(f cdr)", "(2)"), gives("(f (lambda (x) x))", "(1 2)"), gives("(f car)", "(1 2)"), fails("(f 5)", api.ErrType), fails("(f +)", api.ErrArity), gives("(f null?)", "#f"))
	wantSession(t, gives("(define swap (lambda () (let ((p +)) (begin (set! + -) (set! - p) 2))))", ""), gives("(+ 5 (swap))", "7"), gives("(+ 5 (swap))", "3"), gives("(+ (swap) (swap))", "4"), gives("(+ (+ (swap) 5) (- (swap) 5))", "14"))
	wantSession(t, gives("(define l (lambda (n) (if (= n 0) '() (begin (set! + (if (eq? + p) m p)) (cons (+ n 1) (l (- n 1)))))))", ""), gives("(define p +)", ""), gives("(define m *)", ""), gives("(l 5)", "(5 5 3 3 1)"), gives("(l 5)", "(6 4 4 2 2)"))
}

func TestP6AGlobalWithoutAValueGetsOne(t *testing.T) {
	wantSession(t, gives("(define f (lambda (x y) (late x y)))", ""), fails("(f 1 2)", api.ErrUnbound), fails("(late (display 1) 2)", api.ErrUnbound), gives("(define late cons)", ""), gives("(f 1 2)", "(1 . 2)"),
		gives("(define late (lambda (a b) b))", ""), gives("(f 1 2)", "2"), fails("(late)", api.ErrArity), fails("(nowhere (display 1))", api.ErrUnbound), gives("(set! late -)", ""), gives("(f 1 2)", "-1"))
}

func TestP6ANameOfAPrimitiveThatALambdaBinds(t *testing.T) {
	wantSession(t, gives("(let ((+ -)) (+ 5 3))", "2"), gives("((lambda (car) (car '(1 2))) cdr)", "(2)"), gives("(let ((+ -)) (begin (set! + *) (+ 5 3)))", "15"), gives("(+ 5 3)", "8"), gives("(let ((+ +)) (let ((- +)) (- 5 3)))", "8"),
		gives("(define f (lambda (+) (lambda (x) (+ x 1))))", ""), gives("((f -) 5)", "4"), gives("(define + *)", ""), gives("((f -) 5)", "4"), gives("((f +) 5)", "5"), fails("((f 7) 5)", api.ErrType))
}

// What is applied is that which the global was when the call was entered, also
// if a continuation enters it once more behind a redefinition.
func TestP6AContinuationIsEnteredBehindARedefinition(t *testing.T) {
	const keep = "(call/cc (lambda (c) (begin (set! k c) 1)))"
	begin := gives("(define k 0)", "")
	wantSession(t, begin, gives("(+ 5 "+keep+")", "6"), gives("(define + -)", ""), gives("(k 3)", "8"), gives("(+ 5 3)", "2"), gives("(k 4)", "9"))
	wantSession(t, begin, gives("(+ "+keep+" 5)", "6"), gives("(define + (lambda (a b) 'anew))", ""), gives("(k 3)", "8"), gives("(+ 5 3)", "anew"), fails("(k 'a)", api.ErrType))
	wantSession(t, begin, gives("(+ "+keep+" (+ 2 3))", "6"), gives("(set! + *)", ""), gives("(k 4)", "10"), gives("(k 5)", "11"))
	wantSession(t, begin, gives("(begin "+keep+" (+ 2 3))", "5"), gives("(set! + *)", ""), gives("(k 4)", "6"), gives("(set! + (lambda (a b) a))", ""), gives("(k 4)", "2"))
	wantSession(t, begin, gives("(car (begin "+keep+" '(1 2)))", "1"), gives("(define car cdr)", ""), gives("(k 0)", "1"), gives("(car '(1 2))", "(2)"))
	wantSession(t, begin, gives("(set! + (begin "+keep+" -))", ""), gives("(+ 5 3)", "2"), gives("(define - *)", ""), gives("(k 0)", ""), gives("(+ 5 3)", "15"))
	wantSession(t, begin, gives("(define + "+keep+")", ""), fails("(+ 5 3)", api.ErrType), gives("(k -)", ""), gives("(+ 5 3)", "2"), gives("(k (lambda (a b) b))", ""), gives("(+ 5 3)", "3"))
}

// Each frame that stands in another one waits for its own value.
func TestP6FramesInOneAnother(t *testing.T) {
	wantSession(t, gives("(define i (lambda (x) x))", ""), gives("(cons (i 1) (cons (i 2) (cons (i 3) (i 4))))", "(1 2 3 . 4)"), gives("(- (- (i 9) (i 5)) (- (i 3) (i 2)))", "3"),
		gives("(if (null? (cdr (i '(1)))) (car (i '(5))) (i 6))", "5"), gives("(let ((x (i 1)) (y (i 2))) (let ((z (cons (i y) x))) (begin (i z) (set! x (cons z (i z))) x)))", "((2 . 1) 2 . 1)"),
		gives("((i cons) (begin (i 1) (i 2)) (begin 3 (i 4) 5))", "(2 . 5)"), gives("(i (i (i (cons (i (i 1)) (i (- (i 3) (i 1)))))))", "(1 . 2)"), gives("(define x (i (begin (i 1) (if (i #f) 2 (i 3)))))", ""), gives("x", "3"))
}

// down goes as deep as the fuel allows, with each kind of frame: of its steps
// most are made on the way down and back.
func TestP6CallsAsDeepAsAFuelAllows(t *testing.T) {
	for _, body := range []string{"(+ 1 (down (- n 1)))", "(+ (down (- n 1)) 1)", "(begin (down (- n 1)) n)", "(if (down (- n 1)) n 0)", "(set! n (down (- n 1)))", "(let ((m (down (- n 1)))) (+ m 1))",
		"(car (cons (down (- n 1)) n))", "(call/cc (lambda (k) (+ 1 (down (- n 1)))))", "((lambda (x y) x) n (down (- n 1)))"} {
		script := []api.Input{{Text: "(define down (lambda (n) (if (= n 0) 0 " + body + ")))", Fuel: 3}, {Text: "(down 20000)", Fuel: api.MaxFuel}, {Text: "(down -1)", Fuel: api.MaxFuel}, {Text: "1", Fuel: 1}}
		got, want := Fast(script), Slow(script[:2])
		if want[1].Code != api.OK || got[1] != want[1] || got[2] != (api.Outcome{Code: api.ErrFuel}) || got[3] != (api.Outcome{Code: api.ErrFuel}) {
			t.Errorf("%s: %+v, want %+v", body, got, want)
		}
	}
}

// A continuation of many frames that is entered again and again takes its
// steps each time.
func TestP6ManyFramesEnteredAgainAndAgain(t *testing.T) {
	script := []api.Input{{Text: "(define k 0)", Fuel: 3}, {Text: "(define down (lambda (n) (if (= n 0) (call/cc (lambda (c) (begin (set! k c) 0))) (+ 1 (down (- n 1))))))", Fuel: 3},
		{Text: "(down 2000)", Fuel: 100000}, {Text: "(k 5)", Fuel: 4005}, {Text: "(define l (lambda () (begin (down 2000) (k 1))))", Fuel: 3}, {Text: "(l)", Fuel: api.MaxFuel}, {Text: "1", Fuel: 1}}
	got := Fast(script)
	want := []api.Outcome{{}, {}, {Value: "2000"}, {Value: "2005"}, {}, {Code: api.ErrFuel}, {Code: api.ErrFuel}}
	if !slices.Equal(got, want) {
		t.Errorf("%+v", got)
	}
	wantFast(t, script)
}
