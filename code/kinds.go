package code

import "bounded/machine"

// Instruction is one of the kinds of instructions, with its operands: registers by their numbers, labels and functions by places in the code.
type Instruction interface {
	// Do makes the instruction's step, or lets the machine stand still if that would be a fault.
	Do(m *machine.Machine)
}

type set struct {
	to     int
	number int64
}

func (i set) Do(m *machine.Machine) {
	m.Regs[i.to] = i.number
	m.GoOn()
}

type mov struct{ to, from int }

func (i mov) Do(m *machine.Machine) {
	m.Regs[i.to] = m.Regs[i.from]
	m.GoOn()
}

type add struct{ to, left, right int }

func (i add) Do(m *machine.Machine) {
	m.Regs[i.to] = m.Regs[i.left] + m.Regs[i.right]
	m.GoOn()
}

type sub struct{ to, left, right int }

func (i sub) Do(m *machine.Machine) {
	m.Regs[i.to] = m.Regs[i.left] - m.Regs[i.right]
	m.GoOn()
}

type mul struct{ to, left, right int }

func (i mul) Do(m *machine.Machine) {
	m.Regs[i.to] = m.Regs[i.left] * m.Regs[i.right]
	m.GoOn()
}

type inc struct {
	to     int
	number int64
}

func (i inc) Do(m *machine.Machine) {
	m.Regs[i.to] += i.number
	m.GoOn()
}

type load struct{ to, cell int }

func (i load) Do(m *machine.Machine) {
	if cell := m.Cell(m.Regs[i.cell]); cell != nil {
		m.Regs[i.to] = *cell
		m.GoOn()
	}
}

type store struct{ cell, from int }

func (i store) Do(m *machine.Machine) {
	if cell := m.Cell(m.Regs[i.cell]); cell != nil {
		*cell = m.Regs[i.from]
		m.GoOn()
	}
}

type read struct{ to int }

func (i read) Do(m *machine.Machine) {
	m.Regs[i.to] = m.Read()
	m.GoOn()
}

type write struct{ from int }

func (i write) Do(m *machine.Machine) {
	m.Write(m.Regs[i.from])
	m.GoOn()
}

type jump struct{ label int }

func (i jump) Do(m *machine.Machine) { m.GoTo(i.label) }

type less struct{ left, right, label int }

func (i less) Do(m *machine.Machine) { branch(m, m.Regs[i.left] < m.Regs[i.right], i.label) }

type same struct{ left, right, label int }

func (i same) Do(m *machine.Machine) { branch(m, m.Regs[i.left] == m.Regs[i.right], i.label) }

func branch(m *machine.Machine, holds bool, label int) {
	if holds {
		m.GoTo(label)
	} else {
		m.GoOn()
	}
}

type call struct{ function int }

func (i call) Do(m *machine.Machine) { m.Call(i.function) }

type back struct{}

func (back) Do(m *machine.Machine) { m.Back() }

type stop struct{}

func (stop) Do(m *machine.Machine) { m.Stop() }
