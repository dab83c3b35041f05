package fast

import (
	"stepper/syntax"
	"stepper/value"
)

// scope is what is known of the surroundings ahead: the names that they will
// have places for.
type scope struct {
	names []syntax.Name
	outer *scope
}

// find tells where the innermost place of a name will be: how far out, and
// which one there.
func (s *scope) find(name syntax.Name) (depth, index int, ok bool) {
	for ; s != nil; s = s.outer {
		for i, n := range s.names {
			if n.Number == name.Number {
				return depth, i, true
			}
		}
		depth++
	}
	return 0, 0, false
}

// places are those of one procedure's names, and those around them.
type places struct {
	values []value.Value
	outer  *places
}

func (p *places) at(depth, index int) *value.Value {
	for range depth {
		p = p.outer
	}
	return &p.values[index]
}
