// Package machine: the machine that programs run on.
package machine

import "bounded/api"

// Machine is what instructions work on. It knows the places of instructions, not their lines.
type Machine struct {
	Regs   [api.MaxRegs]int64
	cells  [api.MaxCells]int64
	input  []int64 // what has not been read yet
	out    []int64
	next   int   // the place of the instruction that comes next
	behind []int // of each frame but the outermost one: the place at which its `back` goes on
	steps  int
	peak   int
	end    int
}

// New makes a machine at its beginning; the program's first instruction has place 0.
func New(input []int64) *Machine {
	return &Machine{input: input, peak: 1}
}

// Next is the place of the instruction that comes next, as long as the machine has not ended.
func (m *Machine) Next() int { return m.next }

// Steps is how many steps have been made.
func (m *Machine) Steps() int { return m.steps }

// Runs tells whether another step may be asked for.
func (m *Machine) Runs() bool { return m.end == api.Running }

// GoOn ends a step behind which the next instruction in the text comes.
func (m *Machine) GoOn() { m.GoTo(m.next + 1) }

// GoTo ends a step behind which the instruction at that place comes.
func (m *Machine) GoTo(place int) {
	m.steps++
	m.next = place
}

// Cell is the cell of that number. If it is not there, the answer is nil, and the machine stands still ahead of the instruction that asked.
func (m *Machine) Cell(number int64) *int64 {
	if number < 0 || number >= api.MaxCells {
		m.end = api.FaultCell
		return nil
	}
	return &m.cells[number]
}

// Read takes the next number of the input; there are noughts without end behind its last one.
func (m *Machine) Read() int64 {
	if len(m.input) == 0 {
		return 0
	}
	number := m.input[0]
	m.input = m.input[1:]
	return number
}

// Write puts a number out.
func (m *Machine) Write(number int64) { m.out = append(m.out, number) }

// Call is the step into a function that begins at that place. If there may be no more frames, the machine stands still ahead of it.
func (m *Machine) Call(place int) {
	if m.frames() == api.MaxFrames {
		m.end = api.FaultFrame
		return
	}
	m.behind = append(m.behind, m.next+1)
	m.peak = max(m.peak, m.frames())
	m.GoTo(place)
}

// Back is the step out of a function.
func (m *Machine) Back() {
	last := len(m.behind) - 1
	if last < 0 {
		m.finish(api.Returned)
		return
	}
	place := m.behind[last]
	m.behind = m.behind[:last]
	m.GoTo(place)
}

// Stop is the step that stops the program, in whichever frame it is.
func (m *Machine) Stop() { m.finish(api.Stopped) }

// finish ends the run by a step, as a fault does not.
func (m *Machine) finish(end int) {
	m.steps++
	m.end = end
}

func (m *Machine) frames() int {
	if m.end == api.Returned {
		return 0
	}
	return len(m.behind) + 1
}

// Finished tells whether the program stopped or returned: no instruction comes next.
func (m *Machine) Finished() bool { return m.end == api.Stopped || m.end == api.Returned }

// State tells everything but the line. The machine isn't used afterwards, so what was put out need not be copied.
func (m *Machine) State() api.State {
	return api.State{
		Steps:  m.steps,
		Regs:   m.Regs,
		Cells:  m.cells,
		Out:    m.out,
		Frames: m.frames(),
		Peak:   m.peak,
		End:    m.end,
	}
}
