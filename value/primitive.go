package value

import (
	"stepper/api"
	"stepper/fault"
	"stepper/names"
	"stepper/spell"
)

// Primitive is a primitive that needs nothing but its arguments and the output.
type Primitive int

const (
	Add Primitive = iota
	Subtract
	Multiply
	Less
	Equal
	Cons
	Car
	Cdr
	IsNull
	IsPair
	IsSame
	Display
)

// CallCC is the primitive call/cc, which only an engine can apply: it alone
// has the frames that a continuation keeps.
type CallCC struct{}

var primitives = [...]struct {
	name      string
	arguments int
}{
	Add:      {"+", 2},
	Subtract: {"-", 2},
	Multiply: {"*", 2},
	Less:     {"<", 2},
	Equal:    {"=", 2},
	Cons:     {"cons", 2},
	Car:      {"car", 1},
	Cdr:      {"cdr", 1},
	IsNull:   {"null?", 1},
	IsPair:   {"pair?", 1},
	IsSame:   {"eq?", 2},
	Display:  {"display", 1},
}

func (Primitive) isValue() {}
func (CallCC) isValue()    {}

func (Primitive) Spell(to *spell.Text) { Applicable{}.Spell(to) }
func (CallCC) Spell(to *spell.Text)    { Applicable{}.Spell(to) }

// Globals is a new table of the globals that there are at the beginning, by
// the numbers of their names.
func Globals(table *names.Table) map[int]Value {
	globals := map[int]Value{table.Number("call/cc"): CallCC{}}
	for i, p := range primitives {
		globals[table.Number(p.name)] = Primitive(i)
	}
	return globals
}

// Apply is what the primitive gives for these arguments.
func (p Primitive) Apply(arguments []Value, output *Output) (Value, error) {
	if err := CheckCount(primitives[p].name, primitives[p].arguments, arguments); err != nil {
		return nil, err
	}
	switch p {
	case Cons:
		return &Pair{First: arguments[0], Rest: arguments[1]}, nil
	case Car, Cdr:
		return p.ofPair(arguments[0])
	case IsNull:
		return Truth(arguments[0] == Empty{}), nil
	case IsPair:
		_, ok := arguments[0].(*Pair)
		return Truth(ok), nil
	case IsSame:
		return Truth(arguments[0] == arguments[1]), nil
	case Display:
		return p.display(arguments[0], output)
	}
	return p.ofNumbers(arguments[0], arguments[1])
}

// CheckCount is the error of applying something to these arguments, if they
// are not as many as it asks for.
func CheckCount(applied string, asked int, arguments []Value) error {
	if len(arguments) != asked {
		return fault.While("applying "+applied, api.ErrArity)
	}
	return nil
}

func (p Primitive) fault(code api.Errno) error {
	return fault.While("applying "+primitives[p].name, code)
}

func (p Primitive) ofPair(a Value) (Value, error) {
	pair, ok := a.(*Pair)
	if !ok {
		return nil, p.fault(api.ErrType)
	}
	if p == Car {
		return pair.First, nil
	}
	return pair.Rest, nil
}

func (p Primitive) display(a Value, output *Output) (Value, error) {
	if !output.add(spell.Of(a)) {
		return nil, p.fault(api.ErrBig)
	}
	return Nothing{}, nil
}

func (p Primitive) ofNumbers(a, b Value) (Value, error) {
	x, isNumber := a.(Number)
	y, areNumbers := b.(Number)
	if !isNumber || !areNumbers {
		return nil, p.fault(api.ErrType)
	}
	switch p {
	case Less:
		return Truth(x < y), nil
	case Equal:
		return Truth(x == y), nil
	}
	n, ok := p.reckon(x, y)
	if !ok {
		return nil, p.fault(api.ErrBig)
	}
	return n, nil
}

// reckon tells also whether what comes out is within the limits.
func (p Primitive) reckon(x, y Number) (Number, bool) {
	switch p {
	case Add:
		return x + y, size(x+y) <= api.MaxInt
	case Subtract:
		return x - y, size(x-y) <= api.MaxInt
	}
	// The product may be greater than an int64 holds, so it is not asked.
	return x * y, x == 0 || size(y) <= api.MaxInt/size(x)
}

func size(n Number) Number { return max(n, -n) }
