// Package datum reads a text as the one datum that it writes.
package datum

// Datum is a Number, a Truth, a Name or a List.
type Datum interface{ isDatum() }

type (
	Number int64
	Truth  bool
	Name   string
	List   []Datum
)

func (Number) isDatum() {}
func (Truth) isDatum()  {}
func (Name) isDatum()   {}
func (List) isDatum()   {}
