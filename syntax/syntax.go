// Package syntax reads a text as the form that it writes.
package syntax

import (
	"stepper/datum"
	"stepper/spell"
	"stepper/value"
)

// Form is a Constant, a Name, an If, a Begin, a Set, a Lambda, a Call or a
// Define. A let has no form of its own: it is the Call that it is the same as.
type Form interface {
	spell.Speller
	isForm()
}

type (
	// Constant is a number, a truth, or a quoted datum: its value is made
	// here, once, so that it is one and the same whenever it is worked out.
	Constant struct {
		Value  value.Value
		Quoted bool
	}

	// Name has its text, to be told, and its number, to be found by.
	Name struct {
		Text   string
		Number int
	}

	If struct{ Test, Then, Else Form }

	// Begin has one form or more.
	Begin struct{ Forms []Form }

	Set struct {
		Name  Name
		Value Form
	}

	Lambda struct {
		Names []Name
		Body  Form
	}

	// Call has what is applied ahead of what it is applied to.
	Call struct{ Forms []Form }

	// Define stands nowhere but as a whole input.
	Define struct {
		Name  Name
		Value Form
	}
)

func (Constant) isForm() {}
func (Name) isForm()     {}
func (If) isForm()       {}
func (Begin) isForm()    {}
func (Set) isForm()      {}
func (Lambda) isForm()   {}
func (Call) isForm()     {}
func (Define) isForm()   {}

func isKeyword(name datum.Name) bool {
	switch name {
	case "quote", "if", "lambda", "set!", "define", "begin", "let":
		return true
	}
	return false
}
