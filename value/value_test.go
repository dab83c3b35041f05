package value

import (
	"strings"
	"testing"

	"stepper/api"
	"stepper/datum"
	"stepper/spell"
)

func wantText(t *testing.T, v Value, want string) {
	t.Helper()
	if got := spell.Of(v); got != want {
		t.Errorf("the text is %q, want %q", got, want)
	}
}

func TestTexts(t *testing.T) {
	one, two := Number(1), Number(2)
	for _, c := range []struct {
		v    Value
		want string
	}{
		{Number(0), "0"},
		{Number(-12), "-12"},
		{Number(api.MaxInt), "1099511627776"},
		{Number(-api.MaxInt), "-1099511627776"},
		{Truth(true), "#t"},
		{Truth(false), "#f"},
		{Name("set!"), "set!"},
		{Empty{}, "()"},
		{Nothing{}, ""},
		{Add, "#procedure"},
		{CallCC{}, "#procedure"},
		{struct{ Applicable }{}, "#procedure"},
		{&Pair{one, Empty{}}, "(1)"},
		{&Pair{one, two}, "(1 . 2)"},
		{&Pair{one, &Pair{two, Empty{}}}, "(1 2)"},
		{&Pair{one, &Pair{one, two}}, "(1 1 . 2)"},
		{&Pair{&Pair{one, two}, &Pair{Empty{}, Empty{}}}, "((1 . 2) ())"},
		{&Pair{Nothing{}, Nothing{}}, "( . )"},
		{&Pair{Nothing{}, &Pair{Nothing{}, Empty{}}}, "( )"},
		{&Pair{Car, Cdr}, "(#procedure . #procedure)"},
	} {
		wantText(t, c.v, c.want)
	}
}

func TestWhatAQuotedDatumIs(t *testing.T) {
	for _, text := range []string{"1", "-5", "#t", "#f", "if", "()", "(1)", "(a (b #t) ())", "(quote a)", "((((1))) 2)"} {
		d, err := datum.Read(text)
		if err != nil {
			t.Fatal(err)
		}
		wantText(t, Of(d), text)
	}
	d := datum.List{datum.Number(1)}
	if Of(d) == Of(d) {
		t.Error("one pair for two data")
	}
}

// Spelled out, each of these has more bytes than there is memory.
func TestThePairsOfATextThatIsFarTooLong(t *testing.T) {
	var both, first, rest, nothings Value = Name("a"), Name("a"), Name("a"), Nothing{}
	for range 1000000 {
		both = &Pair{both, both}
		first = &Pair{first, Number(1)}
		rest = &Pair{Number(1), rest}
		nothings = &Pair{Nothing{}, nothings}
	}
	wantText(t, both, strings.Repeat("(", api.MaxPrint)+"..")
	wantText(t, first, strings.Repeat("(", api.MaxPrint)+"..")
	wantText(t, rest, "("+strings.Repeat("1 ", api.MaxPrint)[:api.MaxPrint-1]+"..")
	wantText(t, nothings, "("+strings.Repeat(" ", api.MaxPrint-1)+"..")
	wantText(t, &Pair{rest, both}, "(("+strings.Repeat("1 ", api.MaxPrint)[:api.MaxPrint-2]+"..")
}

func TestATextOfJustMaxPrintBytesIsWhole(t *testing.T) {
	list := func(bytes int) Value {
		return &Pair{Name(strings.Repeat("a", bytes-4)), &Pair{Name("b"), Empty{}}}
	}
	whole := "(" + strings.Repeat("a", api.MaxPrint-4) + " b)"
	wantText(t, list(api.MaxPrint), whole)
	wantText(t, list(api.MaxPrint+1), "("+strings.Repeat("a", api.MaxPrint-3)+" b..")
	wantText(t, list(api.MaxPrint+3), "("+strings.Repeat("a", api.MaxPrint-1)+"..")
}

// watched notes that it was spelled.
type watched struct {
	Applicable
	spelled *int
}

func (w watched) Spell(*spell.Text) { *w.spelled++ }

func TestWhatStandsBehindTheCutIsNotLookedAt(t *testing.T) {
	spelled := 0
	last := watched{spelled: &spelled}
	var list Value = &Pair{last, last}
	for range api.MaxPrint {
		list = &Pair{Number(1), list}
	}
	wantText(t, list, "("+strings.Repeat("1 ", api.MaxPrint)[:api.MaxPrint-1]+"..")
	wantText(t, &Pair{list, last}, "(("+strings.Repeat("1 ", api.MaxPrint)[:api.MaxPrint-2]+"..")
	if spelled != 0 {
		t.Errorf("spelled %d times", spelled)
	}
}
