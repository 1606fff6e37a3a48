package bounded_test

import (
	"math"
	"reflect"
	"slices"
	"strings"
	"sync"
	"testing"

	"bounded/api"
	"bounded/bounded"
)

// oddTexts: right ones, wrong ones, and such as no program would be written.
func oddTexts() []string {
	texts := []string{
		"", "\n", ";", ":", "func", "\xff", "\x00", "func f", "a:", "jump a", "back", "-", "r", "func f\nset r0 -\nback",
		strings.Repeat("\n", 1000000), strings.Repeat(";", 4000), strings.Repeat("x", 1000000), strings.Repeat("\xff", 4000),
		strings.Repeat("a ", 2000), strings.Repeat("func a\n", 299), "func f\nset r0 " + strings.Repeat("9", 3900) + "\nback",
		"func " + strings.Repeat("α", 1900), strings.Repeat("a:\n", 290), "func f\ncall f\nback", "func f\na:\njump a",
		example,
	}
	for b := range 256 {
		texts = append(texts, string([]byte{byte(b)}), "func f\n"+string([]byte{byte(b)})+"\nback", "func f\nback ;"+string([]byte{byte(b)}))
	}
	return texts
}

func TestNoCallPanics(t *testing.T) {
	for _, text := range oddTexts() {
		bounded.Check(text)
		bounded.Verify(text)
		for _, input := range [][]int64{nil, {}, {math.MinInt64, 0, math.MaxInt64}} {
			bounded.Run(text, input)
			for _, steps := range []int{math.MinInt, -1, 0, 1, api.MaxTrace, api.MaxTrace + 1, math.MaxInt} {
				bounded.Trace(text, input, steps)
			}
		}
	}
}

// readers: programs that read and put out, and end in each of the ways.
var readers = []string{
	example,
	"func f\nread r0\nwrite r0\nread r0\nwrite r0\nback",
	"func f\na:\nread r0\nwrite r0\nstore r1 r0\ninc r1 1\njump a",
	"func f\nread r0\nwrite r0\ncall f\nback",
	"func f\na:\nread r0\nwrite r0\njump a",
	"func f\nread r0\nwrite r0\nstop",
	"func f\nstop",
}

func TestTheInputIsNotWrittenInto(t *testing.T) {
	spare := []int64{1, 2, 3, 4, 5, 6}
	before := slices.Clone(spare)
	for _, text := range readers {
		for _, steps := range []int{0, 1, 2, 3, 100, api.MaxTrace, -1} {
			bounded.Trace(text, spare[:3], steps)
		}
		bounded.Run(text, spare[:3])
		if !slices.Equal(spare, before) {
			t.Errorf("the input is %v behind a run of %q, was %v", spare, text, before)
		}
	}
}

// spoil writes over a list, spare room too.
func spoil(list []int64) {
	list = list[:cap(list)]
	for i := range list {
		list[i] = -99
	}
}

// runner is a call that runs a program with an input.
type runner func(text string, input []int64) api.State

// runners: Trace with several numbers of steps, and Run.
func runners() []runner {
	all := []runner{func(text string, input []int64) api.State {
		state, _, _ := bounded.Run(text, input)
		return state
	}}
	for _, steps := range []int{2, 3, 10, 100} {
		all = append(all, func(text string, input []int64) api.State {
			state, _, _ := bounded.Trace(text, input, steps)
			return state
		})
	}
	return all
}

func TestWhatComesOutIsNewMemory(t *testing.T) {
	for _, text := range readers {
		for _, run := range runners() {
			input := []int64{1, 2, 3, 4, 5, 6}
			first := run(text, input[:3])
			second := run(text, input[:3])
			kept := slices.Clone(second.Out)
			spoil(first.Out)
			if !slices.Equal(second.Out, kept) {
				t.Errorf("%q: two answers share memory", text)
			}
			if !slices.Equal(input, []int64{1, 2, 3, 4, 5, 6}) {
				t.Errorf("%q: what was put out shares memory with the input: %v", text, input)
			}
			spoil(input)
			if !slices.Equal(second.Out, kept) {
				t.Errorf("%q: the input is kept in what was put out", text)
			}
			third := run(text, []int64{1, 2, 3})
			second.Out = kept
			if !sameState(second, third) {
				t.Errorf("%q: %+v, and later %+v", text, second, third)
			}
		}
	}
}

func TestWithAnErrorTheRestIsEmpty(t *testing.T) {
	for _, text := range oddTexts() {
		if errno, line := bounded.Check(text); errno == api.OK && line != 0 {
			t.Errorf("Check(%.80q) = OK, %d", text, line)
		}
		if state, errno, _ := bounded.Trace(text, nil, 10); errno != api.OK && !reflect.DeepEqual(state, api.State{}) {
			t.Errorf("Trace(%.80q): error %d with %v", text, errno, state)
		}
		if state, errno, _ := bounded.Run(text, nil); errno != api.OK && !reflect.DeepEqual(state, api.State{}) {
			t.Errorf("Run(%.80q): error %d with %v", text, errno, state)
		}
		if bound, errno, _ := bounded.Verify(text); errno != api.OK && bound != (api.Bound{}) {
			t.Errorf("Verify(%.80q): error %d with %v", text, errno, bound)
		}
	}
}

// TestTheAnswerHangsOnTheArgumentsAlone: the same texts, in another order and several at once, are answered as at first.
func TestTheAnswerHangsOnTheArgumentsAlone(t *testing.T) {
	type answer struct {
		errno api.Errno
		line  int
		state api.State
		let   api.Errno
		bound api.Bound
		end   api.State
	}
	ask := func(text string) (a answer) {
		a.bound, a.let, _ = bounded.Verify(text)
		a.end, _, _ = bounded.Run(text, []int64{3, 1, 4})
		a.state, a.errno, a.line = bounded.Trace(text, []int64{3, 1, 4}, 50)
		if e, l := bounded.Check(text); e != a.errno || l != a.line {
			t.Errorf("Check(%.80q) = %d, %d, and Trace tells %d, %d", text, e, l, a.errno, a.line)
		}
		return a
	}
	texts := append(oddTexts(), "func f\na:\na:\nback\nfunc f\nback", "func f\njump a\nfunc g\njump b", "func f\nfunc g\nfunc h", chain(16), chain(17))
	texts = append(texts, readers...)
	first := make([]answer, len(texts))
	for i, text := range texts {
		first[i] = ask(text)
	}
	var workers sync.WaitGroup
	for range 4 {
		workers.Go(func() {
			for i := len(texts) - 1; i >= 0; i-- {
				if a := ask(texts[i]); !reflect.DeepEqual(a, first[i]) {
					t.Errorf("%.80q is answered with %v, was %v", texts[i], a, first[i])
				}
			}
		})
	}
	workers.Wait()
}
