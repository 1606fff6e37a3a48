package source

import (
	"strings"

	"bounded/api"
	"bounded/refusal"
)

// Sort is which of the things that a line may say it says.
type Sort int

const (
	Begin Sort = iota // a function begins
	Label
	Instruction
)

// Statement is what a line says.
type Statement struct {
	Sort   Sort
	Line   int
	Word   string           // of an instruction
	Regs   [maxOperands]int // of an instruction, in their order
	Number int64            // of an instruction
	Name   string           // of the function or label that begins here, or that the instruction names
}

const maxOperands = 3

// statementOf asks for at least one word.
func statementOf(words []string, line int) Statement {
	if words[0] == "func" {
		return beginOf(words, line)
	}
	if label, found := strings.CutSuffix(words[0], ":"); found {
		return labelOf(label, words, line)
	}
	return instructionOf(words, line)
}

func beginOf(words []string, line int) Statement {
	if len(words) != 2 || !isName(words[1]) {
		refusal.Raise(api.ErrText, line)
	}
	return Statement{Sort: Begin, Line: line, Name: words[1]}
}

func labelOf(label string, words []string, line int) Statement {
	if len(words) != 1 || !isName(label) {
		refusal.Raise(api.ErrText, line)
	}
	return Statement{Sort: Label, Line: line, Name: label}
}

func instructionOf(words []string, line int) Statement {
	operands, ok := operandsOf(words[0])
	if !ok || len(words)-1 != len(operands) {
		refusal.Raise(api.ErrText, line)
	}
	s := Statement{Sort: Instruction, Line: line, Word: words[0]}
	for i, kind := range operands {
		if !s.take(i, kind, words[i+1]) {
			refusal.Raise(api.ErrText, line)
		}
	}
	return s
}

// take keeps the operand at a place; it answers whether the word is one of that kind. No instruction has a register behind an operand of another kind, so the place is the register's too.
func (s *Statement) take(place int, kind operand, word string) (ok bool) {
	switch kind {
	case register:
		s.Regs[place], ok = registerOf(word)
	case number:
		s.Number, ok = numberOf(word)
	case name:
		s.Name, ok = word, isName(word)
	}
	return ok
}

// namesLabel: a call names a function, every other instruction that names something a label.
func (s Statement) namesLabel() bool {
	return s.Word == "jump" || s.Word == "less" || s.Word == "same"
}

func (s Statement) namesFunction() bool {
	return s.Word == "call"
}

// mayEnd tells whether a function may end with it: nothing that stands behind it is gone on to.
func (s Statement) mayEnd() bool {
	return s.Word == "jump" || s.Word == "back" || s.Word == "stop"
}
