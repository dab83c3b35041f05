package stepper

import (
	"errors"

	"stepper/api"
	"stepper/fast"
	"stepper/fault"
	"stepper/names"
	"stepper/syntax"
)

// engine runs the inputs of one session, one behind the other.
type engine interface {
	Run(input syntax.Form, fuel int) (output, text string, err error)
}

// run has the engine answer a script. The names of its inputs have their
// numbers from the table that the engine has its globals by.
func run(e engine, script []api.Input, table *names.Table) []api.Outcome {
	outcomes := make([]api.Outcome, len(script))
	for i, in := range script {
		outcomes[i] = answer(e, in, table)
	}
	return outcomes
}

func answer(e engine, in api.Input, table *names.Table) api.Outcome {
	input, err := read(in, table)
	if err != nil {
		return api.Outcome{Code: fault.Code(err)}
	}
	output, text, err := e.Run(input, in.Fuel)
	return api.Outcome{Code: fault.Code(err), Output: output, Value: text}
}

// read asks for the fuel ahead of the text: an error of the fuel is told
// first.
func read(in api.Input, table *names.Table) (syntax.Form, error) {
	if in.Fuel < 0 || in.Fuel > api.MaxFuel {
		return nil, fault.While("taking in the fuel", api.ErrOver)
	}
	return syntax.Read(in.Text, table)
}

// fastEngine runs nothing behind an input that has not ended: that one may
// have done more than its fuel's steps, so that the session is no longer what
// the slow engine's would be.
type fastEngine struct {
	session *fast.Session
	spent   error
}

func newFastEngine(table *names.Table) *fastEngine {
	return &fastEngine{session: fast.NewSession(table)}
}

func (e *fastEngine) Run(input syntax.Form, fuel int) (output, text string, err error) {
	if e.spent != nil {
		return "", "", e.spent
	}
	output, text, err = e.session.Run(input, fuel)
	if errors.Is(err, fault.Fault(api.ErrFuel)) {
		e.spent = fault.Doing{What: "running what comes behind", Cause: err}
	}
	return output, text, err
}
