// Package bounded: a gate that lets in only programs that are sure to end: see DOC.md.
package bounded

import (
	"bounded/api"
	"bounded/code"
	"bounded/gate"
	"bounded/refusal"
	"bounded/source"
)

// Check tells what is wrong with a program's text (P2).
func Check(text string) (api.Errno, int) {
	return outcome(func() { source.Read(text) })
}

// Trace runs a program, step by step (P3).
func Trace(text string, input []int64, steps int) (state api.State, errno api.Errno, line int) {
	errno, line = outcome(func() {
		program := source.Read(text)
		checkSteps(steps)
		state = code.Of(program).Run(input, steps)
	})
	return state, errno, line
}

func checkSteps(steps int) {
	if steps < 0 || steps > api.MaxTrace {
		refusal.Raise(api.ErrSteps, 0)
	}
}

// Verify lets a program in, or does not (P4).
func Verify(text string) (bound api.Bound, errno api.Errno, line int) {
	errno, line = outcome(func() {
		bound = gate.Bound(code.Of(source.Read(text)))
	})
	return bound, errno, line
}

// Run runs a program that is let in (P5).
func Run(text string, input []int64) (state api.State, errno api.Errno, line int) {
	errno, line = outcome(func() {
		program := code.Of(source.Read(text))
		bound := gate.Bound(program)
		state = program.Run(input, bound.Steps)
	})
	return state, errno, line
}

// outcome does the work and tells the refusal that ended it, if one did. Any other panic is a mistake of the program's own, which must not pass for an answer: it is told on.
func outcome(work func()) (errno api.Errno, line int) {
	defer func() {
		switch found := recover().(type) {
		case nil:
		case refusal.Refusal:
			errno, line = found.Errno, found.Line
		default:
			panic(found)
		}
	}()
	work()
	return api.OK, 0
}
