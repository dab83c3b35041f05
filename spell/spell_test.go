package spell

import (
	"strings"
	"testing"

	"stepper/api"
)

type word string

func (w word) Spell(to *Text) { to.Add(string(w)) }

type row []word

func (r row) Spell(to *Text) { List(to, r) }

func TestOfCutsBehindMaxPrintBytes(t *testing.T) {
	long := strings.Repeat("abcdefg", 100)
	for n := range 2*api.MaxPrint + 1 {
		want := long[:n]
		if n > api.MaxPrint {
			want = long[:api.MaxPrint] + ".."
		}
		if got := Of(word(long[:n])); got != want {
			t.Errorf("a text of %d bytes: %q", n, got)
		}
	}
}

func TestFullTellsThatMoreIsNotTold(t *testing.T) {
	var text Text
	for n := range api.MaxPrint + 1 {
		if text.Full() {
			t.Fatalf("full with %d bytes", n)
		}
		text.Add("x")
	}
	if !text.Full() {
		t.Error("not full with one byte too many")
	}
}

func TestList(t *testing.T) {
	for _, c := range []struct {
		list row
		want string
	}{{nil, "()"}, {row{"a"}, "(a)"}, {row{"a", "b", "c"}, "(a b c)"}, {row{"", ""}, "( )"}} {
		if got := Of(c.list); got != c.want {
			t.Errorf("%q: %q, want %q", c.list, got, c.want)
		}
	}
}
