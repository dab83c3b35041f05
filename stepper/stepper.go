// Package stepper is a small Scheme with two engines: see DOC.md.
package stepper

import (
	"stepper/api"
	"stepper/fault"
	"stepper/slow"
	"stepper/syntax"
)

// Check tells the error with which an input is read (P3).
func Check(text string) api.Errno {
	_, err := syntax.Read(text)
	return fault.Code(err)
}

// Slow runs a session step by step (P4).
func Slow(script []api.Input) []api.Outcome {
	return runSlow(slow.NewSession(), script)
}

// Trace tells the states of an input behind a script (P5).
func Trace(script []api.Input, text string, n int) ([]api.Line, api.Errno) {
	// n may be what a fuel may be.
	input, err := read(api.Input{Text: text, Fuel: n})
	if err != nil {
		return nil, fault.Code(err)
	}
	session := slow.NewSession()
	runSlow(session, script)
	return session.Trace(input, n), api.OK
}

// Fast runs a session by code (P6).
func Fast(script []api.Input) []api.Outcome { return nil }

// Both runs a session by both engines (P7).
func Both(script []api.Input) ([]api.Outcome, []api.Outcome) { return nil, nil }

func runSlow(session *slow.Session, script []api.Input) []api.Outcome {
	outcomes := make([]api.Outcome, len(script))
	for i, in := range script {
		outcomes[i] = answerSlow(session, in)
	}
	return outcomes
}

func answerSlow(session *slow.Session, in api.Input) api.Outcome {
	input, err := read(in)
	if err != nil {
		return api.Outcome{Code: fault.Code(err)}
	}
	output, text, err := session.Run(input, in.Fuel)
	return api.Outcome{Code: fault.Code(err), Output: output, Value: text}
}

// read asks for the fuel ahead of the text: an error of the fuel is told
// first.
func read(in api.Input) (syntax.Form, error) {
	if in.Fuel < 0 || in.Fuel > api.MaxFuel {
		return nil, fault.While("taking in the fuel", api.ErrOver)
	}
	return syntax.Read(in.Text)
}
