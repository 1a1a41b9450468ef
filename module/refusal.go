package module

import "skerry/api"

// refusal is what is panicked with: an error.
type refusal struct{ err api.Errno }

func refuse(e api.Errno) { panic(refusal{e}) }

// need refuses with an error what is not as it has to be.
func need(is bool, e api.Errno) {
	if !is {
		refuse(e)
	}
}
