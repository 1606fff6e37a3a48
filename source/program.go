// Package source reads a program's text.
package source

import (
	"strings"

	"bounded/api"
	"bounded/refusal"
)

// Program is a program's functions, in the order of the text: the first one is the one that is run.
type Program struct {
	Functions []Function
	Places    map[string]int // by a function's name: where in Functions it is
}

// Function is a function's instructions, in the order of the text, and its labels.
type Function struct {
	Name   string
	Line   int
	Body   []Statement
	Labels map[string]int // by a label's name: where in Body the instruction is that comes next
}

// Read reads a text. What is wrong with it is raised as a refusal: each look goes over the whole text ahead of the next one, since an error that is named earlier in the document goes before one on an earlier line.
func Read(text string) Program {
	checkSize(text)
	statements := statementsOf(text)
	checkStart(statements)
	program := programOf(statements)
	program.checkNames()
	program.checkEnds()
	return program
}

func checkSize(text string) {
	if len(text) > api.MaxText || strings.Count(text, "\n")+1 > api.MaxLines {
		refusal.Raise(api.ErrLimit, 0)
	}
}

// statementsOf reads line by line, so that the first line that is wrong is the one that is told.
func statementsOf(text string) []Statement {
	var statements []Statement
	for i, lineText := range strings.Split(text, "\n") {
		if words := wordsOf(lineText, i+1); len(words) > 0 {
			statements = append(statements, statementOf(words, i+1))
		}
	}
	return statements
}

func checkStart(statements []Statement) {
	if len(statements) == 0 {
		refusal.Raise(api.ErrStart, 0)
	}
	if statements[0].Sort != Begin {
		refusal.Raise(api.ErrStart, statements[0].Line)
	}
}

// programOf asks for statements of which the first begins a function.
func programOf(statements []Statement) Program {
	program := Program{Places: map[string]int{}}
	for _, s := range statements {
		if s.Sort == Begin {
			program.begin(s)
		} else {
			program.Functions[len(program.Functions)-1].add(s)
		}
	}
	return program
}

func (p *Program) begin(s Statement) {
	enter(p.Places, s, len(p.Functions))
	p.Functions = append(p.Functions, Function{Name: s.Name, Line: s.Line, Labels: map[string]int{}})
}

func (f *Function) add(s Statement) {
	if s.Sort == Label {
		enter(f.Labels, s, len(f.Body))
	} else {
		f.Body = append(f.Body, s)
	}
}

func enter(places map[string]int, s Statement, place int) {
	if _, twice := places[s.Name]; twice {
		refusal.Raise(api.ErrTwice, s.Line)
	}
	places[s.Name] = place
}

func (p Program) checkNames() {
	for _, f := range p.Functions {
		for _, s := range f.Body {
			if s.namesLabel() {
				demand(f.Labels, s)
			}
			if s.namesFunction() {
				demand(p.Places, s)
			}
		}
	}
}

func demand(places map[string]int, s Statement) {
	if _, found := places[s.Name]; !found {
		refusal.Raise(api.ErrMissing, s.Line)
	}
}

func (p Program) checkEnds() {
	for _, f := range p.Functions {
		if !f.ends() {
			refusal.Raise(api.ErrEnd, f.Line)
		}
	}
}

// ends tells whether nothing goes on behind the function's last instruction, neither from it nor from a label.
func (f Function) ends() bool {
	for _, place := range f.Labels {
		if place == len(f.Body) {
			return false
		}
	}
	return len(f.Body) > 0 && f.Body[len(f.Body)-1].mayEnd()
}
