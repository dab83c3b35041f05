// Package names gives each name one number, by which the engines find its
// global.
package names

import "sync"

// Table is locked, as both engines may read names into it at the same time.
type Table struct {
	lock    sync.Mutex
	numbers map[string]int
}

// NewTable is a table without names.
func NewTable() *Table { return &Table{numbers: map[string]int{}} }

// Number is the number of a name: the next one that is free, if it has none
// yet.
func (t *Table) Number(name string) int {
	t.lock.Lock()
	defer t.lock.Unlock()
	number, ok := t.numbers[name]
	if !ok {
		number = len(t.numbers)
		t.numbers[name] = number
	}
	return number
}
