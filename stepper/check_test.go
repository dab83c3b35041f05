package stepper

import (
	"strings"
	"testing"

	"stepper/api"
)

func wantCheck(t *testing.T, want api.Errno, texts ...string) {
	t.Helper()
	for _, text := range texts {
		if got := Check(text); got != want {
			t.Errorf("Check(%.80q) = %d, want %d", text, got, want)
		}
	}
}

func begins(n int) string {
	return strings.Repeat("(begin ", n) + "1" + strings.Repeat(")", n)
}

func brackets(n int, inside string) string {
	return strings.Repeat("(", n) + inside + strings.Repeat(")", n)
}

// filled is the text with blanks behind it, so that it has n bytes.
func filled(text string, n int) string {
	return text + strings.Repeat(" ", n-len(text))
}

func TestP3Examples(t *testing.T) {
	wantCheck(t, api.OK, "(if 1 2 3)", "'(if)", "x", "(f)", "((lambda () 1))")
	wantCheck(t, api.ErrText, "", "(", "1 2", "a1", "#x", ")")
	wantCheck(t, api.ErrForm, "()", "(if 1 2)", "if", "(lambda (x x) 1)", "(begin)", "(f (define x 1))")
	wantCheck(t, api.ErrNumber, "1099511627777")
}

func TestP3Tokens(t *testing.T) {
	wantCheck(t, api.OK, "-", "--", "+", "-a", "a-", "<=?", "set", "iff", "lambda!", "quote?",
		"(f#t#f)", "(f'a)", "(f(g)(h))", "(\nf\n1\n)", "(#tx #fy)", "(f -1 1 -)")
	wantCheck(t, api.ErrText, "1-", "--1", "-1-", "+1", "1+1", "a1", "1a", "x-1", "#", "(#)", "# t", "#T",
		"A", "(f A)", "(a . b)", "a.b", "\"a\"", "a;b", "[f]", "a_b", "f,", "`a", "\t1", "1\r", "\x00", "é", "\xff", "1\x80")
}

func TestP3JustOneDatum(t *testing.T) {
	wantCheck(t, api.ErrText, "", " ", "\n", "1 2", "#t#f", "#tt", "#t1", "(f) (f)", "(f)x", "'a'b", "'",
		"''", "(')", "('", "(", "((f)", "(f))", ")", ")(", "())")
}

func TestP3NoBeginningOfAnInputIsAnInput(t *testing.T) {
	const whole = "(define f (lambda (x) (let ((y '(1 #t))) (if x (begin (set! y -1) y) (f 'a)))))"
	wantCheck(t, api.OK, whole)
	for end := range whole {
		wantCheck(t, api.ErrText, whole[:end])
	}
}

func TestP3Forms(t *testing.T) {
	wantCheck(t, api.OK, "1", "#t", "#f", "'()", "''a", "(quote quote)", "(quote (define))",
		"(if x y z)", "(begin 1)", "(begin 1 2 3)", "(set! x 1)", "(define x 1)", "(define car cdr)",
		"(lambda () 1)", "(lambda (x) 1)", "(lambda (x y z) (x y z))", "(lambda (x) (lambda (x) x))",
		"(let () 1)", "(let ((x 1)) x)", "(let ((x 1) (y 2)) x)", "(let ((x 1)) (let ((x 2)) x))",
		"(f)", "(f 1 2 3 4)", "(1)", "(#t 'a)", "('a)", "((f) (g))", "((if f g h) 1)", "((begin car) 1)")
	wantCheck(t, api.ErrForm, "(quote)", "(quote 1 2)", "(if)", "(if 1)", "(if 1 2)", "(if 1 2 3 4)", "(begin)",
		"(set!)", "(set! x)", "(set! x 1 2)", "(set! 1 2)", "(set! (x) 1)", "(set! 'x 1)", "(set! #t 1)",
		"(define)", "(define x)", "(define x 1 2)", "(define 1 2)", "(define (f) 1)", "(define 'x 1)", "((define x 1))",
		"(lambda)", "(lambda ())", "(lambda () 1 2)", "(lambda x 1)", "(lambda 1 1)", "(lambda (1) 1)", "(lambda (#t) 1)",
		"(lambda ((x)) 1)", "(lambda 'x 1)", "(lambda ('x) 1)", "(lambda (x x) 1)", "(lambda (x y x) 1)",
		"(let)", "(let ())", "(let () 1 2)", "(let x 1)", "(let 1 1)", "(let (x) 1)", "(let ((x)) 1)", "(let (()) 1)",
		"(let ((x 1 2)) 1)", "(let (x 1) 1)", "(let ('x) 1)", "(let 'x 1)", "(let ((1 x)) 1)", "(let ((x 1) (x 2)) 1)",
		"(let ((x 1)) ())", "(let ((x ())) 1)", "(let f ((x 1)) 1)",
		"()", "(f ())", "(())", "(if () 1 2)", "(lambda () ())", "(begin ())", "(set! x ())", "(define x ())")
}

func TestP3Keywords(t *testing.T) {
	for _, keyword := range []string{"quote", "if", "lambda", "set!", "define", "begin", "let"} {
		wantCheck(t, api.ErrForm, keyword, "("+keyword+")", "(f "+keyword+")", "("+keyword+" "+keyword+" 1)",
			"(lambda ("+keyword+") 1)", "(let (("+keyword+" 1)) 1)", "(set! "+keyword+" 1)", "(define "+keyword+" 1)")
		wantCheck(t, api.OK, "'"+keyword, "'("+keyword+")", "x"+keyword, keyword+"?")
	}
}

func TestP3Length(t *testing.T) {
	wantCheck(t, api.OK, filled("1", api.MaxText), strings.Repeat("a", api.MaxText))
	wantCheck(t, api.ErrText, filled("", api.MaxText), filled("(", api.MaxText))
	wantCheck(t, api.ErrLong, filled("1", api.MaxText+1), strings.Repeat("a", api.MaxText+1), strings.Repeat("(", 1<<22))
}

func TestP3Depth(t *testing.T) {
	quotes := func(n int, d string) string { return strings.Repeat("'", n) + d }
	wantCheck(t, api.OK, begins(api.MaxDepth), quotes(api.MaxDepth, "a"), quotes(1, brackets(api.MaxDepth-1, "")),
		"(f "+strings.Repeat("'a ", 40)+strings.Repeat("'(b) ", 10)+")")
	wantCheck(t, api.ErrDepth, begins(api.MaxDepth+1), quotes(api.MaxDepth+1, "a"), quotes(1, brackets(api.MaxDepth, "")),
		"(f 1 "+begins(api.MaxDepth)+" 1)", "(f '"+begins(api.MaxDepth-1)+")")
	wantCheck(t, api.ErrText, strings.Repeat("(", api.MaxText), strings.Repeat("'", api.MaxText))
}

func TestP3Numbers(t *testing.T) {
	zeros := strings.Repeat("0", 200)
	wantCheck(t, api.OK, "1099511627776", "-1099511627776", "0001099511627776", zeros, "-"+zeros+"7", "(f 1099511627776)")
	wantCheck(t, api.ErrNumber, "1099511627777", "-1099511627777", "'1099511627777", "(f '(a (-1099511627777)))",
		"(begin 1099511627777 1)", "9223372036854775808", "-9223372036854775809", "18446744073709551617",
		strings.Repeat("9", api.MaxText), "-"+zeros+"1099511627777")
}

func TestP3TheFirstErrorIsTold(t *testing.T) {
	const great = "1099511627777"
	wantCheck(t, api.ErrLong, filled("A", api.MaxText+1), filled(brackets(30, great), api.MaxText+1), filled(great, api.MaxText+1))
	wantCheck(t, api.ErrText, brackets(30, "A"), brackets(30, great)+")", great+" "+great, "("+great, "(if "+great+" A)", "() ()", "(if) #")
	wantCheck(t, api.ErrDepth, brackets(21, great), brackets(21, ""), "("+great+" "+brackets(20, "")+")")
	wantCheck(t, api.ErrNumber, "(if "+great+")", "(() "+great+")", "(lambda (x x) "+great+")", "(lambda ("+great+") 1)")
}

func TestP1CheckOfAnyTokensAnswersAnErrorOfReading(t *testing.T) {
	tokens := []string{"(", ")", "'", "#t", "1", "x", "quote", "if", "lambda", "set!", "define", "begin", "let", "."}
	var all func(text string, more int)
	all = func(text string, more int) {
		switch got := Check(text); got {
		case api.OK, api.ErrText, api.ErrForm:
		default:
			t.Errorf("Check(%q) = %d", text, got)
		}
		if more == 0 {
			return
		}
		for _, token := range tokens {
			all(text+token+" ", more-1)
		}
	}
	all("", 4)
}

func TestP1CheckOfAnyTwoBytesEnds(t *testing.T) {
	for a := range 256 {
		for b := range 256 {
			text := string([]byte{byte(a), byte(b)})
			switch got := Check(text); got {
			case api.OK, api.ErrText, api.ErrForm:
			default:
				t.Errorf("Check(%q) = %d", text, got)
			}
		}
	}
}

func TestP1NoCallPanics(t *testing.T) {
	script := []api.Input{{}, {Text: "("}, {Text: "\xff", Fuel: -1}, {Text: "1", Fuel: api.MaxFuel + 1}, {Text: strings.Repeat("(", 1<<20), Fuel: 1}}
	for _, s := range [][]api.Input{nil, {}, script} {
		Slow(s)
		Fast(s)
		Both(s)
		for _, n := range []int{-1 << 63, -1, 0, 1, 1<<63 - 1} {
			Trace(s, "(", n)
		}
	}
}
