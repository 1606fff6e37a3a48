// Package gate lets programs in, or does not, by what is known of them.
package gate

import (
	"bounded/api"
	"bounded/code"
	"bounded/heap"
	"bounded/known"
	"bounded/refusal"
)

// More than this is not looked at, though it might show that the program ends. No counted program comes near: it has never more than one way on, so that one place waits, and there are as many looks as steps.
const (
	maxLooks   = 5 * api.MaxSteps
	maxWaiting = 1000
)

// search looks at all places that a run may come to, those behind fewer steps first. So all that leads to a place behind so many steps has been looked at ahead of it, and no input is left out; and when nothing waits any more, every run has ended.
type search struct {
	code    code.Code
	waiting heap.Heap[*known.Known]
	rounds  rounds
	looks   int
	bound   api.Bound
}

// Bound is what a program takes at most, whatever the input is. A program of which that is not sure is rejected.
func Bound(c code.Code) api.Bound {
	s := begin(c)
	s.run()
	return s.bound
}

func begin(c code.Code) *search {
	return &search{code: c, waiting: heap.Heap[*known.Known]{known.AtFirst()}}
}

func (s *search) run() {
	for s.waiting.Len() > 0 {
		s.checkEffort()
		s.look(s.take())
	}
}

func (s *search) checkEffort() {
	s.looks++
	if s.looks > maxLooks || s.waiting.Len() > maxWaiting {
		refusal.Reject()
	}
}

// take takes those out of the heap that meet: wherever the machine came from, it goes on in the same way.
func (s *search) take() *known.Known {
	k := s.waiting.Take()
	for s.waiting.Len() > 0 && s.waiting.First().Meets(k) {
		k.Join(s.waiting.Take())
	}
	return k
}

func (s *search) look(k *known.Known) {
	if k.Steps() == api.MaxSteps || s.rounds.endless(k) {
		refusal.Reject()
	}
	s.bound.Steps = k.Steps() + 1
	s.bound.Frames = max(s.bound.Frames, k.Frames())
	for _, way := range s.code[k.Next()].Instruction.Learn(k) {
		s.waiting.Add(way)
	}
}
