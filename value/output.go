package value

import "stepper/api"

// Output is what an input displays.
type Output struct{ written []byte }

// add tells whether there was room for the text: if not, none of it is added.
func (o *Output) add(text string) bool {
	if len(o.written)+len(text) > api.MaxOutput {
		return false
	}
	o.written = append(o.written, text...)
	return true
}

func (o *Output) String() string { return string(o.written) }
