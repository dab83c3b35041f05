// Package fault has the errors of stepper as values: what went wrong, wrapped
// by what was about to be done.
package fault

import (
	"errors"
	"strconv"

	"stepper/api"
)

// Fault is what went wrong, by its number.
type Fault api.Errno

func (f Fault) Error() string { return "error " + strconv.Itoa(int(f)) }

// Doing is an error and what was about to be done when it came up.
type Doing struct {
	What  string
	Cause error
}

func (d Doing) Error() string { return d.What + ": " + d.Cause.Error() }

// Unwrap lets errors.Is and errors.As find the cause.
func (d Doing) Unwrap() error { return d.Cause }

// While is the fault of this number, wrapped by what was about to be done.
func While(what string, code api.Errno) error {
	return Doing{What: what, Cause: Fault(code)}
}

// Code is the number of the fault in err, OK if there is none.
func Code(err error) api.Errno {
	var f Fault
	if errors.As(err, &f) {
		return api.Errno(f)
	}
	return api.OK
}
