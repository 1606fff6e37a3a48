// Package code: programs as the machine takes them, instruction by instruction.
package code

import (
	"bounded/api"
	"bounded/machine"
	"bounded/source"
)

// Code is the instructions of all functions, in the order of the text. Where in it an instruction stands is its place.
type Code []Placed

// Placed is an instruction and the line on which it stands.
type Placed struct {
	Instruction Instruction
	Line        int
}

// Of lays out a program that has been read.
func Of(program source.Program) Code {
	var code Code
	places := placesOf(program)
	for i, f := range program.Functions {
		for _, s := range f.Body {
			code = append(code, Placed{places.instruction(s, i), s.Line})
		}
	}
	return code
}

// Run runs the code from its beginning, until it has made so many steps or stands still.
func (c Code) Run(input []int64, steps int) api.State {
	m := machine.New(input)
	for m.Runs() && m.Steps() < steps {
		c[m.Next()].Instruction.Do(m)
	}
	state := m.State()
	if !m.Finished() {
		state.At = c[m.Next()].Line
	}
	return state
}
