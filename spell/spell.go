// Package spell writes texts that may be far too long to be written out.
package spell

import "stepper/api"

// Speller is what has a text.
type Speller interface{ Spell(to *Text) }

// Text is a text of which no more than MaxPrint bytes are told.
type Text struct{ written []byte }

// Of is the text of a thing, cut if it is too long.
func Of(thing Speller) string {
	var t Text
	thing.Spell(&t)
	return t.told()
}

// Add writes on.
func (t *Text) Add(more string) { t.written = append(t.written, more...) }

// Full tells that what is added from now on is not told: who has much to spell
// leaves off then.
func (t *Text) Full() bool { return len(t.written) > api.MaxPrint }

func (t *Text) told() string {
	if t.Full() {
		return string(t.written[:api.MaxPrint]) + ".."
	}
	return string(t.written)
}

// List writes things in brackets, with blanks between.
func List[S Speller](to *Text, things []S) {
	to.Add("(")
	for i, thing := range things {
		if i > 0 {
			to.Add(" ")
		}
		thing.Spell(to)
	}
	to.Add(")")
}
