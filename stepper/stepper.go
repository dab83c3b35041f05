// Package stepper is a small Scheme with two engines: see DOC.md.
package stepper

import (
	"sync"

	"stepper/api"
	"stepper/fault"
	"stepper/names"
	"stepper/slow"
	"stepper/syntax"
)

// Check tells the error with which an input is read (P3).
func Check(text string) api.Errno {
	_, err := syntax.Read(text, names.NewTable())
	return fault.Code(err)
}

// Slow runs a session step by step (P4).
func Slow(script []api.Input) []api.Outcome {
	table := names.NewTable()
	return run(slow.NewSession(table), script, table)
}

// Trace tells the states of an input behind a script (P5).
func Trace(script []api.Input, text string, n int) ([]api.Line, api.Errno) {
	table := names.NewTable()
	// n may be what a fuel may be.
	input, err := read(api.Input{Text: text, Fuel: n}, table)
	if err != nil {
		return nil, fault.Code(err)
	}
	session := slow.NewSession(table)
	run(session, script, table)
	return session.Trace(input, n), api.OK
}

// Fast runs a session by code (P6).
func Fast(script []api.Input) []api.Outcome {
	table := names.NewTable()
	return run(newFastEngine(table), script, table)
}

// Both runs a session by both engines (P7).
func Both(script []api.Input) ([]api.Outcome, []api.Outcome) {
	table := names.NewTable()
	var bySlow, byFast []api.Outcome
	var engines sync.WaitGroup
	engines.Go(func() { bySlow = run(slow.NewSession(table), script, table) })
	engines.Go(func() { byFast = run(newFastEngine(table), script, table) })
	engines.Wait()
	return bySlow, byFast
}
