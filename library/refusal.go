package library

import "skerry/api"

// refusal is what is panicked with: an error, and where the front end has it.
type refusal struct {
	err     api.Errno
	trouble api.Trouble
}

// pass refuses with an error of another layer, if there is one.
func pass(e api.Errno) {
	if e != api.OK {
		panic(refusal{err: e})
	}
}

// need refuses with an error what is not as it has to be.
func need(is bool, e api.Errno) {
	if !is {
		pass(e)
	}
}
