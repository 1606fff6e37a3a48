package gate

import (
	"math"
	"math/rand"
	"strconv"
	"strings"
	"testing"

	"bounded/api"
	"bounded/code"
	"bounded/known"
	"bounded/machine"
	"bounded/refusal"
	"bounded/source"
)

func codeOf(text string) code.Code {
	return code.Of(source.Read(strings.ReplaceAll(text, " / ", "\n")))
}

// bound answers also whether the program is let in.
func bound(c code.Code) (b api.Bound, in bool) {
	defer func() {
		switch found := recover(); found {
		case nil, refusal.Refusal{Errno: api.ErrRejected}:
		default:
			panic(found)
		}
	}()
	return Bound(c), true
}

// runs are machines that do a program at the same time, each with an input of its own.
type runs struct {
	code     code.Code
	machines []*machine.Machine
}

func (r runs) step() {
	for _, m := range r.machines {
		if m.Runs() {
			r.code[m.Next()].Instruction.Do(m)
		}
	}
}

// within tells whether a level tells of every machine that has not ended.
func (r runs) within(level []*known.Known) bool {
	for _, m := range r.machines {
		if m.Runs() && !told(m, level) {
			return false
		}
	}
	return true
}

func told(m *machine.Machine, level []*known.Known) bool {
	state := m.State()
	for _, k := range level {
		if k.Next() == m.Next() && k.Frames() == state.Frames && k.Steps() == state.Steps && holds(k, state) {
			return true
		}
	}
	return false
}

func holds(k *known.Known, state api.State) bool {
	for i, number := range state.Regs {
		if !known.Only(number).Within(k.Regs[i]) {
			return false
		}
	}
	for i, number := range state.Cells {
		if !known.Only(number).Within(k.Load(known.Only(int64(i)))) {
			return false
		}
	}
	return true
}

// chance writes programs and inputs by chance.
type chance struct{ *rand.Rand }

func (c chance) number() int64 {
	if c.Intn(8) == 0 {
		return []int64{math.MinInt64, math.MaxInt64, 1 << 62, -1 << 62, 1 << 32, 16}[c.Intn(6)]
	}
	return int64(c.Intn(9)) - 2
}

func (c chance) input() []int64 {
	input := make([]int64, c.Intn(8))
	for i := range input {
		input[i] = c.number()
	}
	return input
}

// instruction: R, K and L stand for a register, a number and a label.
func (c chance) instruction() string {
	forms := []string{"set R K", "inc R K", "mov R R", "add R R R", "sub R R R", "mul R R R", "load R R", "store R R", "read R", "read R", "less R R L", "less R R L", "same R R L", "call g", "call h", "jump L", "write R"}
	words := strings.Fields(forms[c.Intn(len(forms))])
	for i, word := range words {
		switch word {
		case "R":
			words[i] = "r" + strconv.Itoa(c.Intn(4))
		case "K":
			words[i] = strconv.FormatInt(c.number(), 10)
		case "L":
			words[i] = string(rune('a' + c.Intn(3)))
		}
	}
	return strings.Join(words, " ")
}

func (c chance) program() string {
	text := ""
	for _, name := range []string{"f", "g", "h"} {
		text += "func " + name + "\n"
		for i := range 9 {
			if i%3 == 2 {
				text += string(rune('a'+i/3)) + ":\n"
			}
			text += c.instruction() + "\n"
		}
		text += []string{"back", "back", "stop"}[c.Intn(3)] + "\n"
	}
	return text
}

// takeLevel takes all that is behind the same number of steps.
func takeLevel(s *search) []*known.Known {
	level := []*known.Known{s.take()}
	for s.waiting.Len() > 0 && s.waiting.First().Steps() == level[0].Steps() {
		level = append(level, s.take())
	}
	return level
}

// looked looks at a level and answers whether the program was not rejected.
func looked(s *search, level []*known.Known) (ok bool) {
	defer func() { ok = recover() == nil }()
	for _, k := range level {
		s.look(k)
	}
	return true
}

// TestNoRunIsLeftOut: whatever the input is, what is known behind so many steps tells of the machine.
func TestNoRunIsLeftOut(t *testing.T) {
	const programs = 2000
	c := chance{rand.New(rand.NewSource(1))}
	levels, in := 0, 0
	for range programs {
		text := c.program()
		r := runs{code: codeOf(text)}
		for range 30 {
			r.machines = append(r.machines, machine.New(c.input()))
		}
		s := begin(r.code)
		for range 60 {
			if s.waiting.Len() == 0 {
				in++
				if !r.within(nil) {
					t.Fatalf("not ended behind %d steps:\n%s", s.bound.Steps, text)
				}
				break
			}
			level := takeLevel(s)
			if !r.within(level) {
				t.Fatalf("behind %d steps of\n%s", level[0].Steps(), text)
			}
			if !looked(s, level) {
				break
			}
			r.step()
			levels++
		}
	}
	if levels < 8*programs || in < programs/10 {
		t.Errorf("%d levels, %d let in: the programs try too little", levels, in)
	}
}

// TestWaysThatMeetAreLookedAtAsOne: twenty forks one behind another have a million ways through them.
func TestWaysThatMeetAreLookedAtAsOne(t *testing.T) {
	text := "func f\n"
	for i := range 20 {
		label := "a" + strconv.Itoa(i)
		text += "read r1\nless r0 r1 " + label + "\nset r2 " + strconv.Itoa(i) + "\n" + label + ":\n"
	}
	if b, in := bound(codeOf(text + "stop")); !in || b != (api.Bound{Steps: 61, Frames: 1}) {
		t.Errorf("%v, %t", b, in)
	}
}

// TestWhatMeetsMayBeEither: the ways to m are as long as each other, and its cell is there only on one of them.
func TestWhatMeetsMayBeEither(t *testing.T) {
	const text = "func f / read r0 / same r0 r1 a / set r2 15 / jump m / a: / set r2 N / jump m / m: / load r3 r2 / stop"
	if b, in := bound(codeOf(strings.Replace(text, "N", "0", 1))); !in || b != (api.Bound{Steps: 6, Frames: 1}) {
		t.Errorf("%v, %t", b, in)
	}
	for _, n := range []string{"16", "-1"} {
		if b, in := bound(codeOf(strings.Replace(text, "N", n, 1))); in {
			t.Errorf("with %s: %v", n, b)
		}
	}
}

// deep: n times one function calls itself, at one of two calls, so that there are as many ways to be n calls deep as there are numbers of n bits.
func deep(n int) code.Code {
	return codeOf("func f / set r7 " + strconv.Itoa(n) + " / call g / stop / func g / inc r6 1 / less r6 r7 m / back / m: / read r0 / less r0 r1 a / call g / back / a: / call g / back")
}

func TestTooManyThatWait(t *testing.T) {
	if b, in := bound(deep(8)); !in || b != (api.Bound{Steps: 3 + 6*7 + 3, Frames: 9}) {
		t.Errorf("8 calls deep: %v, %t", b, in)
	}
	if b, in := bound(deep(14)); in {
		t.Errorf("14 calls deep: %v", b)
	}
}

// forked: a loop whose rounds take 6 or 7 steps, so that one may be at all of its places behind so many steps.
func forked(rounds int) code.Code {
	return codeOf("func f / set r1 " + strconv.Itoa(rounds) + " / a: / read r3 / write r3 / less r4 r3 c / write r3 / c: / write r3 / inc r0 1 / less r0 r1 a / stop")
}

func TestTooManyLooks(t *testing.T) {
	for rounds, want := range map[int]bool{1: true, 2: true, 1000: true, 14000: false} {
		if b, in := bound(forked(rounds)); in != want || in && b != (api.Bound{Steps: 2 + 7*rounds, Frames: 1}) {
			t.Errorf("%d rounds: %v, %t", rounds, b, in)
		}
	}
}

// TestRoundsWithoutEndAreFoundEarly: such a search need not go on to MaxSteps.
func TestRoundsWithoutEndAreFoundEarly(t *testing.T) {
	for _, text := range []string{
		"func f / a: / jump a",
		"func f / set r1 5 / a: / less r0 r1 b / stop / b: / inc r0 0 / jump a",
		"func f / a: / read r0 / less r0 r1 a / call g / jump a / func g / read r2 / same r2 r0 b / write r2 / b: / back",
		"func f / set r1 40 / b: / inc r0 1 / less r0 r1 b / a: / read r2 / same r2 r1 a / jump a",
		"func f / set r1 2 / set r2 1 / a: / sub r0 r2 r0 / less r0 r1 a / stop",
		"func f / set r1 100 / a: / set r0 0 / b: / inc r0 1 / less r0 r1 b / jump a",
		// behind 4 steps one is at x; behind 7 at x or elsewhere
		"func f / write r0 / write r0 / write r0 / write r0 / x: / read r0 / same r0 r1 y / jump x / y: / write r0 / write r0 / jump x",
	} {
		s := begin(codeOf(text))
		if looked := rejected(s); !looked || s.looks > 2000 {
			t.Errorf("%q: rejected: %t, behind %d looks", text, looked, s.looks)
		}
	}
}

func rejected(s *search) (is bool) {
	defer func() { is = recover() == refusal.Refusal{Errno: api.ErrRejected} }()
	s.run()
	return false
}

// TestRoundsThatEnd: a place is come to again with what was known there before, but that is not all that there is to a level.
func TestRoundsThatEnd(t *testing.T) {
	for text, steps := range map[string]int{
		// behind 4 steps one may be at x or on the way to it; behind 6 at x alone
		"func f / read r0 / same r0 r1 y / set r0 0 / write r0 / x: / write r0 / stop / y: / write r0 / write r0 / write r0 / jump x": 8,
		// behind 4 steps x is called, behind 7 with the same numbers, out of one more frame
		"func f / write r0 / write r0 / write r0 / call x / call g / stop / func g / call x / back / func x / back": 10,
		// the second round differs from the first one in a cell, or in a register
		"func f / " + strings.Repeat("write r0 / ", 8) + "x: / load r1 r0 / same r1 r2 y / stop / y: / set r1 1 / store r0 r1 / set r1 0 / jump x": 17,
		"func f / " + strings.Repeat("write r0 / ", 4) + "x: / same r1 r2 y / stop / y: / set r1 1 / jump x":                                       9,
	} {
		if b, in := bound(codeOf(text)); !in || b.Steps != steps {
			t.Errorf("%q: %v, %t, want %d steps", text, b, in, steps)
		}
	}
}
