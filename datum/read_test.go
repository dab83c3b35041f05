package datum

import (
	"errors"
	"reflect"
	"strings"
	"testing"

	"stepper/api"
	"stepper/fault"
)

func quoteOf(d Datum) List { return List{Name("quote"), d} }

func TestReadMakesTheDatum(t *testing.T) {
	for _, c := range []struct {
		text string
		want Datum
	}{
		{"0", Number(0)},
		{"-0", Number(0)},
		{"007", Number(7)},
		{"-12", Number(-12)},
		{strings.Repeat("0", 299) + "5", Number(5)},
		{"1099511627776", Number(api.MaxInt)},
		{"-1099511627776", Number(-api.MaxInt)},
		{"#t", Truth(true)},
		{"#f", Truth(false)},
		{"-", Name("-")},
		{"--", Name("--")},
		{"az+-*/<=>?!", Name("az+-*/<=>?!")},
		{" \n a \n ", Name("a")},
		{"()", List{}},
		{"( )", List{}},
		{"(a 1 #f)", List{Name("a"), Number(1), Truth(false)}},
		{"(a(b)c)", List{Name("a"), List{Name("b")}, Name("c")}},
		{"(a'b)", List{Name("a"), quoteOf(Name("b"))}},
		{"(#ta#f1)", List{Truth(true), Name("a"), Truth(false), Number(1)}},
		{"'a", quoteOf(Name("a"))},
		{"' a", quoteOf(Name("a"))},
		{"(quote a)", quoteOf(Name("a"))},
		{"''()", quoteOf(quoteOf(List{}))},
		{"('a b)", List{quoteOf(Name("a")), Name("b")}},
	} {
		got, err := Read(c.text)
		if err != nil || !reflect.DeepEqual(got, c.want) {
			t.Errorf("Read(%q) = %#v, %v, want %#v", c.text, got, err, c.want)
		}
	}
}

func TestReadTellsTheFault(t *testing.T) {
	for _, c := range []struct {
		text string
		want api.Errno
	}{
		{strings.Repeat(" ", 301), api.ErrLong},
		{"", api.ErrText},
		{"a b", api.ErrText},
		{"(a", api.ErrText},
		{"a)", api.ErrText},
		{")", api.ErrText},
		{"'", api.ErrText},
		{"(')", api.ErrText},
		{"a1", api.ErrText},
		{strings.Repeat("'", 21) + "a", api.ErrDepth},
		{"1099511627777", api.ErrNumber},
	} {
		got, err := Read(c.text)
		if got != nil || !errors.Is(err, fault.Fault(c.want)) {
			t.Errorf("Read(%.60q) = %#v, %v, want error %d", c.text, got, err, c.want)
		}
	}
}

// The bytes that may stand alone as a text: everything else begins no token,
// or no datum.
func TestReadOfEachByteAlone(t *testing.T) {
	const good = "abcdefghijklmnopqrstuvwxyz0123456789+-*/<=>?!"
	for b := range 256 {
		text := string([]byte{byte(b)})
		_, err := Read(text)
		if want := strings.Contains(good, text); (err == nil) != want {
			t.Errorf("Read(%q): %v", text, err)
		}
	}
}

func TestOnlyBlanksAndNewlinesStandBetweenTokens(t *testing.T) {
	for b := range 256 {
		text := "(a" + string([]byte{byte(b)}) + " b)"
		d, err := Read(text)
		isBlank := err == nil && reflect.DeepEqual(d, List{Name("a"), Name("b")})
		if want := b == 32 || b == 10; isBlank != want {
			t.Errorf("Read(%q) = %#v, %v", text, d, err)
		}
	}
}
