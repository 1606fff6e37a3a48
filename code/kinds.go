package code

import (
	"bounded/known"
	"bounded/machine"
)

// Instruction is one of the kinds of instructions, with its operands: registers by their numbers, labels and functions by places in the code.
type Instruction interface {
	// Do makes the instruction's step, or lets the machine stand still if that would be a fault.
	Do(m *machine.Machine)
	// Learn makes of what is known ahead of the instruction what is known behind it, on every way on. A program that might have a fault there is rejected.
	Learn(k *known.Known) []*known.Known
}

type set struct {
	to     int
	number int64
}

func (i set) Do(m *machine.Machine) {
	m.Regs[i.to] = i.number
	m.GoOn()
}

func (i set) Learn(k *known.Known) []*known.Known {
	k.Regs[i.to] = known.Only(i.number)
	return k.GoOn()
}

type mov struct{ to, from int }

func (i mov) Do(m *machine.Machine) {
	m.Regs[i.to] = m.Regs[i.from]
	m.GoOn()
}

func (i mov) Learn(k *known.Known) []*known.Known {
	k.Regs[i.to] = k.Regs[i.from]
	return k.GoOn()
}

type add struct{ to, left, right int }

func (i add) Do(m *machine.Machine) {
	m.Regs[i.to] = m.Regs[i.left] + m.Regs[i.right]
	m.GoOn()
}

func (i add) Learn(k *known.Known) []*known.Known {
	k.Regs[i.to] = k.Regs[i.left].Plus(k.Regs[i.right])
	return k.GoOn()
}

type sub struct{ to, left, right int }

func (i sub) Do(m *machine.Machine) {
	m.Regs[i.to] = m.Regs[i.left] - m.Regs[i.right]
	m.GoOn()
}

func (i sub) Learn(k *known.Known) []*known.Known {
	k.Regs[i.to] = i.difference(k)
	return k.GoOn()
}

// difference: what a register holds less the same is 0, though nothing may be known of it.
func (i sub) difference(k *known.Known) known.Range {
	if i.left == i.right {
		return known.Only(0)
	}
	return k.Regs[i.left].Minus(k.Regs[i.right])
}

type mul struct{ to, left, right int }

func (i mul) Do(m *machine.Machine) {
	m.Regs[i.to] = m.Regs[i.left] * m.Regs[i.right]
	m.GoOn()
}

func (i mul) Learn(k *known.Known) []*known.Known {
	k.Regs[i.to] = k.Regs[i.left].Times(k.Regs[i.right])
	return k.GoOn()
}

type inc struct {
	to     int
	number int64
}

func (i inc) Do(m *machine.Machine) {
	m.Regs[i.to] += i.number
	m.GoOn()
}

func (i inc) Learn(k *known.Known) []*known.Known {
	k.Regs[i.to] = k.Regs[i.to].Plus(known.Only(i.number))
	return k.GoOn()
}

type load struct{ to, cell int }

func (i load) Do(m *machine.Machine) {
	if cell := m.Cell(m.Regs[i.cell]); cell != nil {
		m.Regs[i.to] = *cell
		m.GoOn()
	}
}

func (i load) Learn(k *known.Known) []*known.Known {
	k.Regs[i.to] = k.Load(k.Regs[i.cell])
	return k.GoOn()
}

type store struct{ cell, from int }

func (i store) Do(m *machine.Machine) {
	if cell := m.Cell(m.Regs[i.cell]); cell != nil {
		*cell = m.Regs[i.from]
		m.GoOn()
	}
}

func (i store) Learn(k *known.Known) []*known.Known {
	k.Store(k.Regs[i.cell], k.Regs[i.from])
	return k.GoOn()
}

type read struct{ to int }

func (i read) Do(m *machine.Machine) {
	m.Regs[i.to] = m.Read()
	m.GoOn()
}

func (i read) Learn(k *known.Known) []*known.Known {
	k.Regs[i.to] = known.Any()
	return k.GoOn()
}

type write struct{ from int }

func (i write) Do(m *machine.Machine) {
	m.Write(m.Regs[i.from])
	m.GoOn()
}

func (i write) Learn(k *known.Known) []*known.Known { return k.GoOn() }

type jump struct{ label int }

func (i jump) Do(m *machine.Machine) { m.GoTo(i.label) }

func (i jump) Learn(k *known.Known) []*known.Known { return k.GoTo(i.label) }

type less struct{ left, right, label int }

func (i less) Do(m *machine.Machine) { branch(m, m.Regs[i.left] < m.Regs[i.right], i.label) }

// Learn: a register is not less than itself, though nothing may be known of it.
func (i less) Learn(k *known.Known) []*known.Known {
	if i.left == i.right {
		return k.GoOn()
	}
	return k.Branch(i.left, i.right, known.Less, known.NotLess, i.label)
}

type same struct{ left, right, label int }

func (i same) Do(m *machine.Machine) { branch(m, m.Regs[i.left] == m.Regs[i.right], i.label) }

// Learn: a register is the same as itself, though nothing may be known of it.
func (i same) Learn(k *known.Known) []*known.Known {
	if i.left == i.right {
		return k.GoTo(i.label)
	}
	return k.Branch(i.left, i.right, known.Same, known.NotSame, i.label)
}

func branch(m *machine.Machine, holds bool, label int) {
	if holds {
		m.GoTo(label)
	} else {
		m.GoOn()
	}
}

type call struct{ function int }

func (i call) Do(m *machine.Machine) { m.Call(i.function) }

func (i call) Learn(k *known.Known) []*known.Known { return k.Call(i.function) }

type back struct{}

func (back) Do(m *machine.Machine) { m.Back() }

func (back) Learn(k *known.Known) []*known.Known { return k.Back() }

type stop struct{}

func (stop) Do(m *machine.Machine) { m.Stop() }

// Learn: there is no way on.
func (stop) Learn(*known.Known) []*known.Known { return nil }
