package fast

import (
	"slices"

	"stepper/api"
	"stepper/fault"
	"stepper/value"
)

// code is what a form has become: it gives the form's value in these
// surroundings. Where a procedure, a continuation or call/cc is to be applied
// first, it gives no value and no error: it has said in the machine what comes
// next, and each code on the way back that needs the value leaves a frame for
// it. So a code calls only those of its form's own parts, however deep the
// calls of procedures are, and all frames are where a continuation can keep
// them.
type code func(m *machine, here *places) (value.Value, error)

// frame waits for a value. It changes nothing of what it has, as it may be
// handed another value later, by a continuation that has kept it.
type frame func(m *machine, v value.Value) (value.Value, error)

// taking is what a code does with the value of one of its form's parts, and
// takingAll with the values of several.
type (
	taking    func(m *machine, here *places, v value.Value) (value.Value, error)
	takingAll func(m *machine, here *places, values []value.Value) (value.Value, error)
)

type pile struct {
	top   frame
	below *pile
}

// machine runs one input. It is handed to each code and each frame, and none
// keeps it: those that an earlier input has made run on the fuel, and display
// to the output, of the input that enters them.
type machine struct {
	frames *pile
	// left has the frames that are not on the pile yet, the innermost first.
	left   []frame
	next   application
	steps  int
	fuel   int
	output value.Output
}

func (m *machine) run(input code) (value.Value, error) {
	v, err := input(m, nil)
	for err == nil && m.steps <= m.fuel && (v == nil || m.frames != nil) {
		v, err = m.goOn(v)
	}
	if m.steps > m.fuel {
		return nil, spent()
	}
	return v, err
}

// goOn hands a value to the frame that waits for it or, if there is none yet,
// does what comes next.
func (m *machine) goOn(v value.Value) (value.Value, error) {
	if v == nil {
		m.pileUp()
		return m.applyNext(m.next)
	}
	waiting := m.frames.top
	m.frames = m.frames.below
	m.steps++
	return waiting(m, v)
}

// wait leaves a frame for a value that has not been given, unless it never
// will be.
func (m *machine) wait(err error, f frame) (value.Value, error) {
	if err == nil {
		m.left = append(m.left, f)
	}
	return nil, err
}

func (m *machine) pileUp() {
	for _, f := range slices.Backward(m.left) {
		m.frames = &pile{top: f, below: m.frames}
	}
	m.left = m.left[:0]
}

func spent() error { return fault.While("making a further step", api.ErrFuel) }
