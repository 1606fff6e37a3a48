package bounded_test

import (
	"math"
	"reflect"
	"slices"
	"strings"
	"sync"
	"testing"

	"bounded/api"
	"bounded/bounded"
)

// oddTexts: right ones, wrong ones, and such as no program would be written.
func oddTexts() []string {
	texts := []string{
		"", "\n", ";", ":", "func", "\xff", "\x00", "func f", "a:", "jump a", "back", "-", "r", "func f\nset r0 -\nback",
		strings.Repeat("\n", 1000000), strings.Repeat(";", 4000), strings.Repeat("x", 1000000), strings.Repeat("\xff", 4000),
		strings.Repeat("a ", 2000), strings.Repeat("func a\n", 299), "func f\nset r0 " + strings.Repeat("9", 3900) + "\nback",
		"func " + strings.Repeat("α", 1900), strings.Repeat("a:\n", 290), "func f\ncall f\nback", "func f\na:\njump a",
		example,
	}
	for b := range 256 {
		texts = append(texts, string([]byte{byte(b)}), "func f\n"+string([]byte{byte(b)})+"\nback", "func f\nback ;"+string([]byte{byte(b)}))
	}
	return texts
}

func TestNoCallPanics(t *testing.T) {
	for _, text := range oddTexts() {
		bounded.Check(text)
		bounded.Verify(text)
		for _, input := range [][]int64{nil, {}, {math.MinInt64, 0, math.MaxInt64}} {
			bounded.Run(text, input)
			for _, steps := range []int{math.MinInt, -1, 0, 1, api.MaxTrace, api.MaxTrace + 1, math.MaxInt} {
				bounded.Trace(text, input, steps)
			}
		}
	}
}

func TestTheInputIsNotWrittenInto(t *testing.T) {
	spare := []int64{1, 2, 3, 4, 5, 6}
	before := slices.Clone(spare)
	for _, text := range []string{example, "func f\nread r0\nwrite r0\nread r0\nwrite r0\nback"} {
		bounded.Trace(text, spare[:3], 100)
		bounded.Run(text, spare[:3])
		if !slices.Equal(spare, before) {
			t.Errorf("the input is %v behind a run of %q, was %v", spare, text, before)
		}
	}
}

func TestWithAnErrorTheRestIsEmpty(t *testing.T) {
	for _, text := range oddTexts() {
		if errno, line := bounded.Check(text); errno == api.OK && line != 0 {
			t.Errorf("Check(%.80q) = OK, %d", text, line)
		}
		if state, errno, _ := bounded.Trace(text, nil, 10); errno != api.OK && !reflect.DeepEqual(state, api.State{}) {
			t.Errorf("Trace(%.80q): error %d with %v", text, errno, state)
		}
		if state, errno, _ := bounded.Run(text, nil); errno != api.OK && !reflect.DeepEqual(state, api.State{}) {
			t.Errorf("Run(%.80q): error %d with %v", text, errno, state)
		}
		if bound, errno, _ := bounded.Verify(text); errno != api.OK && bound != (api.Bound{}) {
			t.Errorf("Verify(%.80q): error %d with %v", text, errno, bound)
		}
	}
}

// TestTheAnswerHangsOnTheArgumentsAlone: the same texts, in another order and several at once, are answered as at first.
func TestTheAnswerHangsOnTheArgumentsAlone(t *testing.T) {
	type answer struct {
		errno api.Errno
		line  int
	}
	texts := append(oddTexts(), "func f\na:\na:\nback\nfunc f\nback", "func f\njump a\nfunc g\njump b", "func f\nfunc g\nfunc h")
	first := make([]answer, len(texts))
	for i, text := range texts {
		first[i].errno, first[i].line = bounded.Check(text)
	}
	var workers sync.WaitGroup
	for range 4 {
		workers.Go(func() {
			for i := len(texts) - 1; i >= 0; i-- {
				if e, l := bounded.Check(texts[i]); (answer{e, l}) != first[i] {
					t.Errorf("Check(%.80q) = %d, %d, was %v", texts[i], e, l, first[i])
				}
			}
		})
	}
	workers.Wait()
}
