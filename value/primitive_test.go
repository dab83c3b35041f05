package value

import (
	"errors"
	"math/big"
	"strings"
	"testing"

	"stepper/api"
	"stepper/fault"
	"stepper/names"
)

func wantFault(t *testing.T, p Primitive, arguments []Value, code api.Errno) {
	t.Helper()
	given, err := p.Apply(arguments, &Output{})
	if given != nil || !errors.Is(err, fault.Fault(code)) {
		t.Errorf("primitive %d of %v: %v, %v, want error %d", p, arguments, given, err, code)
	}
	var doing fault.Doing
	if !errors.As(err, &doing) || !strings.HasPrefix(doing.What, "applying ") {
		t.Errorf("primitive %d of %v: %v does not tell what was about to be done", p, arguments, err)
	}
}

func TestGlobalsAreNewEachTime(t *testing.T) {
	table := names.NewTable()
	car, cdr, callCC := table.Number("car"), table.Number("cdr"), table.Number("call/cc")
	first := Globals(table)
	if len(first) != 13 {
		t.Errorf("%d globals at the beginning", len(first))
	}
	first[car] = Cdr
	delete(first, cdr)
	second := Globals(table)
	if second[car] != Car || second[cdr] != Cdr || second[callCC] != (CallCC{}) {
		t.Errorf("the globals are %v", second)
	}
}

func TestTheNumberOfArgumentsIsAskedAheadOfTheirKinds(t *testing.T) {
	for _, v := range Globals(names.NewTable()) {
		p, ok := v.(Primitive)
		if !ok {
			continue
		}
		right := 2
		switch p {
		case Car, Cdr, IsNull, IsPair, Display:
			right = 1
		}
		for n := range 5 {
			if n != right {
				wantFault(t, p, make([]Value, n), api.ErrArity)
			}
		}
	}
}

func TestTheKindsOfArguments(t *testing.T) {
	noNumbers := []Value{Truth(true), Name("a"), Empty{}, &Pair{Number(1), Number(1)}, Nothing{}, Add, CallCC{}}
	for _, v := range noNumbers {
		for _, p := range []Primitive{Add, Subtract, Multiply, Less, Equal} {
			wantFault(t, p, []Value{Number(1), v}, api.ErrType)
			wantFault(t, p, []Value{v, Number(1)}, api.ErrType)
			wantFault(t, p, []Value{v, v}, api.ErrType)
		}
	}
	for _, v := range []Value{Number(1), Truth(true), Name("a"), Empty{}, Nothing{}, Add, CallCC{}} {
		wantFault(t, Car, []Value{v}, api.ErrType)
		wantFault(t, Cdr, []Value{v}, api.ErrType)
	}
}

// The numbers round the limits, and what their sums, differences and products
// are with room enough.
func TestNumbersAtTheLimits(t *testing.T) {
	numbers := []int64{0, 1, 2, 3, 1<<20 - 1, 1 << 20, 1<<20 + 1, 1 << 39, 1<<39 + 1, api.MaxInt - 1, api.MaxInt}
	for _, n := range numbers {
		numbers = append(numbers, -n)
	}
	limit := big.NewInt(api.MaxInt)
	for _, x := range numbers {
		for _, y := range numbers {
			a, b := big.NewInt(x), big.NewInt(y)
			for p, want := range map[Primitive]*big.Int{Add: new(big.Int).Add(a, b), Subtract: new(big.Int).Sub(a, b), Multiply: new(big.Int).Mul(a, b)} {
				arguments := []Value{Number(x), Number(y)}
				if want.CmpAbs(limit) > 0 {
					wantFault(t, p, arguments, api.ErrBig)
				} else if got, err := p.Apply(arguments, &Output{}); err != nil || got != Number(want.Int64()) {
					t.Errorf("primitive %d of %d and %d: %v, %v, want %v", p, x, y, got, err, want)
				}
			}
		}
	}
}

func TestSame(t *testing.T) {
	pair := &Pair{Number(1), Empty{}}
	different := []Value{Number(0), Number(1), Truth(false), Truth(true), Name("a"), Name("b"), Empty{}, Nothing{}, Add, Subtract, CallCC{}, pair, &Pair{Number(1), Empty{}}}
	for i, a := range different {
		for j, b := range different {
			if got, err := IsSame.Apply([]Value{a, b}, &Output{}); err != nil || got != Truth(i == j) {
				t.Errorf("eq? of %d and %d: %v, %v", i, j, got, err)
			}
		}
	}
}

func TestDisplayAddsAllOfATextOrNothing(t *testing.T) {
	var out Output
	text := Name(strings.Repeat("a", 199))
	for range 5 {
		if given, err := Display.Apply([]Value{text}, &out); given != (Nothing{}) || err != nil {
			t.Fatal(given, err)
		}
	}
	if _, err := Display.Apply([]Value{Name("abcdef")}, &out); !errors.Is(err, fault.Fault(api.ErrBig)) {
		t.Errorf("one byte too many: %v", err)
	}
	if _, err := Display.Apply([]Value{Name("vwxyz")}, &out); err != nil {
		t.Errorf("just enough room: %v", err)
	}
	if want := strings.Repeat("a", 995) + "vwxyz"; out.String() != want {
		t.Errorf("the output is %q", out.String())
	}
}
