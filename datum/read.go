package datum

import (
	"strconv"

	"stepper/api"
	"stepper/fault"
)

// Read reads a text as one datum.
func Read(text string) (Datum, error) {
	if len(text) > api.MaxText {
		return nil, fault.While("taking in the text", api.ErrLong)
	}
	tokens, err := split(text)
	if err != nil {
		return nil, err
	}
	r := reader{rest: tokens}
	d, err := r.whole()
	if err != nil {
		return nil, err
	}
	if r.deepest > api.MaxDepth {
		return nil, fault.While("reading what stands deepest", api.ErrDepth)
	}
	if r.tooGreat {
		return nil, fault.While("reading a number", api.ErrNumber)
	}
	return d, nil
}

// reader only notes what is too deep or too great: a text that is not one
// datum is ErrText first, however far behind that shows.
type reader struct {
	rest     []token
	depth    int
	deepest  int
	tooGreat bool
}

func (r *reader) whole() (Datum, error) {
	d, err := r.datum()
	if err != nil {
		return nil, err
	}
	if len(r.rest) > 0 {
		return nil, fault.While("ending the datum", api.ErrText)
	}
	return d, nil
}

func (r *reader) datum() (Datum, error) {
	if len(r.rest) == 0 {
		return nil, fault.While("beginning a datum", api.ErrText)
	}
	t := r.rest[0]
	r.rest = r.rest[1:]
	switch t.kind {
	case opening:
		return r.list()
	case quoting:
		return r.quoted()
	case truth:
		return Truth(t.text == "#t"), nil
	case number:
		return r.number(t.text), nil
	case name:
		return Name(t.text), nil
	}
	return nil, fault.While("beginning a datum", api.ErrText)
}

func (r *reader) list() (Datum, error) {
	r.enter()
	items := List{}
	for !r.closes() {
		d, err := r.datum()
		if err != nil {
			return nil, err
		}
		items = append(items, d)
	}
	r.rest = r.rest[1:]
	r.leave()
	return items, nil
}

func (r *reader) quoted() (Datum, error) {
	r.enter()
	d, err := r.datum()
	if err != nil {
		return nil, err
	}
	r.leave()
	return List{Name("quote"), d}, nil
}

func (r *reader) number(word string) Number {
	n, err := strconv.ParseInt(word, 10, 64)
	if err != nil || n > api.MaxInt || n < -api.MaxInt {
		r.tooGreat = true
	}
	return Number(n)
}

func (r *reader) closes() bool {
	return len(r.rest) > 0 && r.rest[0].kind == closing
}

func (r *reader) enter() {
	r.depth++
	r.deepest = max(r.deepest, r.depth)
}

func (r *reader) leave() { r.depth-- }
