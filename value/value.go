// Package value has the values, their texts, and the primitives that work on
// them.
package value

import (
	"strconv"

	"stepper/datum"
	"stepper/spell"
)

// Value is a Number, a Truth, a Name, Empty, a *Pair, Nothing, a Primitive,
// CallCC, or what an engine makes around Applicable. Two of them are the same,
// as eq? has it, if they are equal by ==.
type Value interface {
	spell.Speller
	isValue()
}

type (
	Number int64
	Truth  bool
	Name   string

	// Empty is the empty list.
	Empty struct{}

	Pair struct{ First, Rest Value }

	Nothing struct{}

	// Applicable stands in an engine's procedures and continuations and makes
	// them values: what else is in them is the engine's own.
	Applicable struct{}
)

func (Number) isValue()     {}
func (Truth) isValue()      {}
func (Name) isValue()       {}
func (Empty) isValue()      {}
func (*Pair) isValue()      {}
func (Nothing) isValue()    {}
func (Applicable) isValue() {}

// Of is what a quoted datum is: a new pair for each of its pairs.
func Of(d datum.Datum) Value {
	switch d := d.(type) {
	case datum.Number:
		return Number(d)
	case datum.Truth:
		return Truth(d)
	case datum.Name:
		return Name(d)
	case datum.List:
		return ofList(d)
	}
	return Nothing{}
}

func ofList(items datum.List) Value {
	var list Value = Empty{}
	for i := len(items) - 1; i >= 0; i-- {
		list = &Pair{First: Of(items[i]), Rest: list}
	}
	return list
}

func (n Number) Spell(to *spell.Text) { to.Add(strconv.FormatInt(int64(n), 10)) }

func (t Truth) Spell(to *spell.Text) {
	if t {
		to.Add("#t")
	} else {
		to.Add("#f")
	}
}

func (n Name) Spell(to *spell.Text) { to.Add(string(n)) }

func (Empty) Spell(to *spell.Text) { to.Add("()") }

func (Nothing) Spell(*spell.Text) {}

func (Applicable) Spell(to *spell.Text) { to.Add("#procedure") }

// Spell leaves off as soon as nothing more is told: pairs that share what
// stands in them can be of a text that no memory holds.
func (p *Pair) Spell(to *spell.Text) {
	to.Add("(")
	for !to.Full() {
		p.First.Spell(to)
		next, ok := p.Rest.(*Pair)
		if !ok {
			break
		}
		to.Add(" ")
		p = next
	}
	if to.Full() {
		return
	}
	if p.Rest != (Empty{}) {
		to.Add(" . ")
		p.Rest.Spell(to)
	}
	to.Add(")")
}
