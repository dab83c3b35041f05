package names

import (
	"slices"
	"strings"
	"testing"
)

func someNames() []string {
	var all []string
	for n := range 100 {
		all = append(all, strings.Repeat("a", n), strings.Repeat("b", n)+"+")
	}
	return all
}

func TestEachNameHasOneNumber(t *testing.T) {
	table := NewTable()
	for range 3 {
		for i, name := range someNames() {
			if got := table.Number(name); got != i {
				t.Errorf("the number of %q is %d, want %d", name, got, i)
			}
		}
	}
}

func TestATableHasNoNamesOfAnother(t *testing.T) {
	first, second := NewTable(), NewTable()
	first.Number("a")
	if got := second.Number("b"); got != 0 {
		t.Errorf("the first number is %d", got)
	}
}

// Whoever comes first, all are told the same, and no number is given twice.
func TestNumbersAskedForAtTheSameTime(t *testing.T) {
	table := NewTable()
	answers := make(chan []int)
	for from := range 8 {
		go func() {
			numbers := make([]int, len(someNames()))
			for i := range numbers {
				at := (i + from*25) % len(numbers)
				numbers[at] = table.Number(someNames()[at])
			}
			answers <- numbers
		}()
	}
	first := <-answers
	for range 7 {
		if got := <-answers; !slices.Equal(got, first) {
			t.Errorf("%v and %v", got, first)
		}
	}
	slices.Sort(first)
	for i, number := range first {
		if number != i {
			t.Fatalf("the numbers are %v", first)
		}
	}
}
