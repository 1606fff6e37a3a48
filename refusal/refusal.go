// Package refusal: how a call is ended from deep inside.
package refusal

import "bounded/api"

// Refusal is what is panicked with when something found deep inside ends a call: the error, and the line that it is told with.
type Refusal struct {
	Errno api.Errno
	Line  int
}

// Raise ends the call; the face catches it.
func Raise(errno api.Errno, line int) {
	panic(Refusal{errno, line})
}

// Reject ends the call since the program is not let in.
func Reject() {
	Raise(api.ErrRejected, 0)
}
