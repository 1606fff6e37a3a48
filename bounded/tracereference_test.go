package bounded_test

import (
	"math/rand"
	"strconv"
	"strings"
	"testing"

	"bounded/api"
	"bounded/bounded"
)

// paper is a machine done with pencil and paper: it goes from line to line of the text, looks for names by reading the text again, and counts without a sign.
type paper struct {
	text    []string
	regs    [8]uint64
	cells   [16]uint64
	input   []int64
	out     []int64
	line    int // from 0 on
	returns []int
	peak    int
}

func newPaper(text string, input []int64) *paper {
	p := &paper{text: strings.Split(text, "\n"), input: input, peak: 1}
	for i, line := range p.text {
		p.text[i], _, _ = strings.Cut(line, ";")
	}
	p.line = p.skip(0)
	return p
}

// skip: the first line, from a line on, with an instruction.
func (p *paper) skip(line int) int {
	for nothing.MatchString(p.text[line]) || begins.MatchString(p.text[line]) || labels.MatchString(p.text[line]) {
		line++
	}
	return line
}

func (p *paper) find(line string, from int) int {
	for i := from; ; i++ {
		if strings.Join(strings.Fields(p.text[i]), " ") == line {
			return p.skip(i)
		}
	}
}

func (p *paper) reg(word string) *uint64 { return &p.regs[word[1]-'0'] }

// step answers how the run ended, if it did, and whether a step was made.
func (p *paper) step() (end int, made bool) {
	w := strings.Fields(p.text[p.line])
	from, _ := section(p.text, p.line)
	behind := p.line + 1
	switch w[0] {
	case "set", "inc":
		k, _ := strconv.ParseInt(w[2], 10, 64)
		if w[0] == "set" {
			*p.reg(w[1]) = 0
		}
		*p.reg(w[1]) += uint64(k)
	case "mov":
		*p.reg(w[1]) = *p.reg(w[2])
	case "add":
		*p.reg(w[1]) = *p.reg(w[2]) + *p.reg(w[3])
	case "sub":
		*p.reg(w[1]) = *p.reg(w[2]) + ^*p.reg(w[3]) + 1
	case "mul":
		*p.reg(w[1]) = *p.reg(w[2]) * *p.reg(w[3])
	case "load", "store":
		number := *p.reg(w[2])
		if w[0] == "store" {
			number = *p.reg(w[1])
		}
		if number > 15 {
			return api.FaultCell, false
		}
		if w[0] == "store" {
			p.cells[number] = *p.reg(w[2])
		} else {
			*p.reg(w[1]) = p.cells[number]
		}
	case "read":
		*p.reg(w[1]) = 0
		if len(p.input) > 0 {
			*p.reg(w[1]), p.input = uint64(p.input[0]), p.input[1:]
		}
	case "write":
		p.out = append(p.out, int64(*p.reg(w[1])))
	case "jump":
		behind = p.find(w[1]+":", from)
	case "less":
		const sign = 1 << 63
		if *p.reg(w[1])^sign < *p.reg(w[2])^sign {
			behind = p.find(w[3]+":", from)
		}
	case "same":
		if *p.reg(w[1])^*p.reg(w[2]) == 0 {
			behind = p.find(w[3]+":", from)
		}
	case "call":
		if len(p.returns) == 15 {
			return api.FaultFrame, false
		}
		p.returns = append(p.returns, behind)
		p.peak = max(p.peak, len(p.returns)+1)
		behind = p.find("func "+w[1], 0)
	case "back":
		if len(p.returns) == 0 {
			return api.Returned, true
		}
		behind = p.returns[len(p.returns)-1]
		p.returns = p.returns[:len(p.returns)-1]
	case "stop":
		return api.Stopped, true
	}
	p.line = p.skip(behind)
	return api.Running, true
}

// state is what Trace must tell behind so many steps.
func (p *paper) state(steps int) api.State {
	s := api.State{}
	for s.Steps < steps && s.End == api.Running {
		end, made := p.step()
		if s.End = end; made {
			s.Steps++
		}
	}
	for i, r := range p.regs {
		s.Regs[i] = int64(r)
	}
	for i, c := range p.cells {
		s.Cells[i] = int64(c)
	}
	s.Out, s.Peak, s.Frames, s.At = p.out, p.peak, len(p.returns)+1, p.line+1
	if s.End == api.Returned {
		s.Frames = 0
	}
	if s.End == api.Returned || s.End == api.Stopped {
		s.At = 0
	}
	return s
}

// writer writes programs by chance.
type writer struct {
	*rand.Rand
	functions int
}

func (w writer) one(of ...string) string { return of[w.Intn(len(of))] }
func (w writer) reg() string             { return "r" + strconv.Itoa(w.Intn(4)+4*(w.Intn(8)/7)) }
func (w writer) label() string           { return w.one("a", "b", "c", "back", "λ") }
func (w writer) number() string {
	return w.one(strconv.Itoa(w.Intn(16)), strconv.Itoa(w.Intn(16)), strconv.Itoa(w.Intn(16)), "15", "16", "-1", "9223372036854775807", "-9223372036854775808", strconv.FormatInt(int64(w.Uint64()), 10))
}

func (w writer) instruction() string {
	switch w.Intn(14) {
	case 0, 1, 2:
		return "set " + w.reg() + " " + w.number()
	case 3:
		return "inc " + w.reg() + " " + w.number()
	case 4:
		return "mov " + w.reg() + " " + w.reg()
	case 5:
		return w.one("add", "sub", "mul") + " " + w.reg() + " " + w.reg() + "\t" + w.reg()
	case 6, 7:
		return w.one("load", "store") + "  " + w.reg() + " " + w.reg()
	case 8, 9:
		return w.one("read", "write") + " " + w.reg()
	case 10:
		return "jump " + w.label()
	case 11, 12:
		return w.one("less", "same") + " " + w.reg() + " " + w.reg() + " " + w.label()
	}
	return "call f" + strconv.Itoa(w.Intn(w.functions))
}

// function: every label stands in it once, somewhere ahead of its last instruction.
func (w writer) function(number int) string {
	var all []string
	for range 4 + w.Intn(12) {
		all = append(all, "\t"+w.instruction()+w.one("", "", " ; x", ";y:"))
	}
	for _, label := range []string{"a", "b", "c", "back", "λ"} {
		at := w.Intn(len(all) + 1)
		all = append(all[:at], append([]string{label + ":" + w.one("", " ", "\n", "; z\n\n")}, all[at:]...)...)
	}
	return "func f" + strconv.Itoa(number) + "\n" + strings.Join(all, "\n") + "\n" + w.one("back", "back", "stop", "jump a") + "\n"
}

func (w writer) program() string {
	w.functions = 1 + w.Intn(4)
	text := ""
	for i := range w.functions {
		text += w.function(i)
	}
	return text
}

func TestTraceAgainstPaper(t *testing.T) {
	w := writer{Rand: rand.New(rand.NewSource(2))}
	ends, furthest := map[int]int{}, 0
	for range 10000 {
		text := w.program()
		input := make([]int64, w.Intn(6))
		for i := range input {
			input[i] = int64(w.Intn(20)) - 2
		}
		steps := w.Intn(40) * (1 + 9*w.Intn(2))
		want := newPaper(text, input).state(steps)
		ends[want.End]++
		furthest = max(furthest, want.Peak)
		traces(t, text, input, steps, want)
	}
	for end := api.Running; end <= api.FaultFrame; end++ {
		if ends[end] < 100 {
			t.Errorf("only %d runs with end %d: the programs try too little", ends[end], end)
		}
	}
	if furthest != api.MaxFrames {
		t.Errorf("never more than %d frames: the programs try too little", furthest)
	}
}

// FuzzTrace: as TestTraceAgainstPaper, with programs that the fuzzer finds.
func FuzzTrace(f *testing.F) {
	for _, s := range seeds {
		f.Add(s, int64(3), int64(-1), 50)
	}
	f.Fuzz(func(t *testing.T, text string, first, second int64, steps int) {
		input := []int64{first, second}
		errno, line := reference(text)
		if errno == api.OK && (steps < 0 || steps > api.MaxTrace) {
			errno = api.ErrSteps
		}
		want := api.State{}
		if errno == api.OK {
			steps %= 5000 // the reference is slow
			want = newPaper(text, input).state(steps)
		}
		got, e, l := bounded.Trace(text, input, steps)
		if e != errno || l != line || !sameState(got, want) {
			t.Errorf("Trace(%q, %v, %d) = %+v, %d, %d, want %+v, %d, %d", text, input, steps, got, e, l, want, errno, line)
		}
	})
}
