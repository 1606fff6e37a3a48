// Package known: what is known of the machine, whatever the input is, without running a program.
package known

import (
	"cmp"
	"slices"

	"bounded/api"
	"bounded/refusal"
)

// Known is what is known of the machine at a place of the code, behind so many steps, in the frames that the calls behind it made. Instructions make of it what is known behind them: the ways on, of which there may be none, one or two.
type Known struct {
	Regs   [api.MaxRegs]Range
	cells  [api.MaxCells]Range
	next   int
	behind []int // as the machine's; it is shared, so no number in it is ever changed
	steps  int
}

// AtFirst is what is known at the machine's beginning: all is 0.
func AtFirst() *Known { return &Known{} }

// Next is the place of the instruction that comes next.
func (k *Known) Next() int { return k.next }

// Steps is how many steps have been made.
func (k *Known) Steps() int { return k.steps }

// Frames is how many frames there are.
func (k *Known) Frames() int { return len(k.behind) + 1 }

// GoOn is the way on to the next instruction in the text.
func (k *Known) GoOn() []*Known { return k.GoTo(k.next + 1) }

// GoTo is the way on to the instruction at that place.
func (k *Known) GoTo(place int) []*Known {
	k.steps++
	k.next = place
	return []*Known{k}
}

// Branch is the ways on behind a comparison of two registers: where it holds, to the label.
func (k *Known) Branch(left, right int, holds, fails Relation, label int) []*Known {
	here := *k
	canHold, canFail := k.narrow(left, right, holds), here.narrow(left, right, fails)
	switch {
	case !canFail:
		return k.GoTo(label)
	case !canHold:
		return here.GoOn()
	}
	return append(k.GoTo(label), here.GoOn()...)
}

// narrow keeps what is known if two registers are so to each other. It answers whether they can be.
func (k *Known) narrow(left, right int, relation Relation) (ok bool) {
	k.Regs[left], k.Regs[right], ok = relation(k.Regs[left], k.Regs[right])
	return ok
}

// Call is the way on into a function that begins at that place.
func (k *Known) Call(place int) []*Known {
	if k.Frames() == api.MaxFrames {
		refusal.Reject()
	}
	k.behind = append(slices.Clip(k.behind), k.next+1)
	return k.GoTo(place)
}

// Back is the way on out of a function; out of the outermost frame there is none.
func (k *Known) Back() []*Known {
	last := len(k.behind) - 1
	if last < 0 {
		return nil
	}
	place := k.behind[last]
	k.behind = k.behind[:last]
	return k.GoTo(place)
}

// Load is what is known of the cell with a number of that range.
func (k *Known) Load(number Range) Range {
	cells := k.touched(number)
	found := cells[0]
	for _, cell := range cells[1:] {
		found = found.Or(cell)
	}
	return found
}

// Store makes the cell with a number of that range another value. If it may be one of several, each of them may also have kept its own.
func (k *Known) Store(number, value Range) {
	cells := k.touched(number)
	if len(cells) == 1 {
		cells[0] = value
		return
	}
	for i := range cells {
		cells[i] = cells[i].Or(value)
	}
}

// touched is all cells that have a number of that range.
func (k *Known) touched(number Range) []Range {
	if !number.Within(Range{0, api.MaxCells - 1}) {
		refusal.Reject()
	}
	return k.cells[number.Low : number.High+1]
}

// Before tells whether it is to be looked at ahead of another: it is if fewer steps lead to it. The rest of the order only brings those together that meet.
func (k *Known) Before(other *Known) bool { return k.compare(other) < 0 }

// Meets tells whether two stand at the same place, behind as many steps, in the same frames.
func (k *Known) Meets(other *Known) bool { return k.compare(other) == 0 }

func (k *Known) compare(other *Known) int {
	if k.steps != other.steps {
		return cmp.Compare(k.steps, other.steps)
	}
	if k.next != other.next {
		return cmp.Compare(k.next, other.next)
	}
	return slices.Compare(k.behind, other.behind)
}

// Join keeps what is known of both of two that meet.
func (k *Known) Join(other *Known) {
	for i, r := range other.Regs {
		k.Regs[i] = k.Regs[i].Or(r)
	}
	for i, c := range other.cells {
		k.cells[i] = k.cells[i].Or(c)
	}
}

// Covers tells whether all that may be at the other's place, in its frames, may be here too, however many steps lead to them.
func (k *Known) Covers(other *Known) bool {
	return k.next == other.next && slices.Equal(k.behind, other.behind) &&
		cover(k.Regs[:], other.Regs[:]) && cover(k.cells[:], other.cells[:])
}

func cover(wide, narrow []Range) bool {
	for i, r := range narrow {
		if !r.Within(wide[i]) {
			return false
		}
	}
	return true
}
