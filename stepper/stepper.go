// Package stepper is a small Scheme with two engines: see DOC.md.
package stepper

import (
	"stepper/api"
	"stepper/fault"
	"stepper/syntax"
)

// Check tells the error with which an input is read (P3).
func Check(text string) api.Errno {
	_, err := syntax.Read(text)
	return fault.Code(err)
}

// Slow runs a session step by step (P4).
func Slow(script []api.Input) []api.Outcome { return nil }

// Trace tells the states of an input behind a script (P5).
func Trace(script []api.Input, text string, n int) ([]api.Line, api.Errno) { return nil, api.OK }

// Fast runs a session by code (P6).
func Fast(script []api.Input) []api.Outcome { return nil }

// Both runs a session by both engines (P7).
func Both(script []api.Input) ([]api.Outcome, []api.Outcome) { return nil, nil }
