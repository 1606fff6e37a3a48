package code

import "bounded/source"

// places finds the places of what instructions name.
type places struct {
	program source.Program
	begins  []int // of each function: the place of its first instruction
}

func placesOf(program source.Program) places {
	p := places{program: program}
	begin := 0
	for _, f := range program.Functions {
		p.begins = append(p.begins, begin)
		begin += len(f.Body)
	}
	return p
}

func (p places) label(name string, function int) int {
	return p.begins[function] + p.program.Functions[function].Labels[name]
}

func (p places) function(name string) int {
	return p.begins[p.program.Places[name]]
}

// instruction is what a statement says, in the function of that number: labels are the function's own.
func (p places) instruction(s source.Statement, function int) Instruction {
	r := s.Regs
	switch s.Word {
	case "set":
		return set{r[0], s.Number}
	case "mov":
		return mov{r[0], r[1]}
	case "add":
		return add{r[0], r[1], r[2]}
	case "sub":
		return sub{r[0], r[1], r[2]}
	case "mul":
		return mul{r[0], r[1], r[2]}
	case "inc":
		return inc{r[0], s.Number}
	case "load":
		return load{r[0], r[1]}
	case "store":
		return store{r[0], r[1]}
	case "read":
		return read{r[0]}
	case "write":
		return write{r[0]}
	case "jump":
		return jump{p.label(s.Name, function)}
	case "less":
		return less{r[0], r[1], p.label(s.Name, function)}
	case "same":
		return same{r[0], r[1], p.label(s.Name, function)}
	case "call":
		return call{p.function(s.Name)}
	case "back":
		return back{}
	case "stop":
		return stop{}
	}
	panic("a word that was read, but is no instruction: " + s.Word)
}
