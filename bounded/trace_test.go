package bounded_test

import (
	"math"
	"math/big"
	"slices"
	"strconv"
	"strings"
	"testing"

	"bounded/api"
	"bounded/bounded"
)

// sameState: whether two states tell the same; a list of nothing may be nil or not.
func sameState(a, b api.State) bool {
	return a.Steps == b.Steps && a.Regs == b.Regs && a.Cells == b.Cells && slices.Equal(a.Out, b.Out) &&
		a.Frames == b.Frames && a.Peak == b.Peak && a.At == b.At && a.End == b.End
}

// traces holds Trace against the whole state that it must answer.
func traces(t *testing.T, text string, input []int64, steps int, want api.State) {
	t.Helper()
	got, errno, line := bounded.Trace(text, input, steps)
	if errno != api.OK || line != 0 || !sameState(got, want) {
		t.Errorf("Trace(%.200q, %v, %d) = %+v, %d, %d,\nwant %+v", text, input, steps, got, errno, line, want)
	}
}

// traced is what Trace answers for a program that is right.
func traced(t *testing.T, text string, input []int64, steps int) api.State {
	t.Helper()
	state, errno, line := bounded.Trace(text, input, steps)
	if errno != api.OK || line != 0 {
		t.Fatalf("Trace(%.200q, %v, %d): error %d, line %d", text, input, steps, errno, line)
	}
	return state
}

func TestTraceOfTheExample(t *testing.T) {
	end := api.State{Steps: 25, Regs: [8]int64{5, 5}, Out: []int64{0, 1, 2, 3, 4}, Frames: 1, Peak: 1, End: api.Stopped}
	traces(t, example, nil, 100, end)
	traces(t, example, nil, 25, end)
	traces(t, example, nil, api.MaxTrace, end)
	traces(t, example, []int64{7, 8, 9}, 100, end)
	traces(t, example, nil, 0, api.State{Frames: 1, Peak: 1, At: 2})
	traces(t, example, nil, 2, api.State{Steps: 2, Regs: [8]int64{0, 5}, Frames: 1, Peak: 1, At: 5})
	traces(t, example, nil, 3, api.State{Steps: 3, Regs: [8]int64{0, 5}, Frames: 1, Peak: 1, At: 8})
	traces(t, example, nil, 5, api.State{Steps: 5, Regs: [8]int64{1, 5}, Out: []int64{0}, Frames: 1, Peak: 1, At: 10})
	traces(t, example, nil, 24, api.State{Steps: 24, Regs: [8]int64{5, 5}, Out: []int64{0, 1, 2, 3, 4}, Frames: 1, Peak: 1, At: 12})
}

// held: eight numbers that a program reads into the registers, all different, so that no register may stand for another.
var held = [8]int64{3, 5, 7, 11, 2, 13, -17, 15}

// withHeld: a program that stores 100, 101, .. into the cells and reads the numbers into the registers; then comes the instruction, on line 61, and `stop` on lines 62 and 64, at the second one the label a.
func withHeld(instruction string) (text string, input []int64, ahead int) {
	text = "func f\n"
	for c := range api.MaxCells {
		text += "set r0 " + strconv.Itoa(c) + "\nset r1 " + strconv.Itoa(100+c) + "\nstore r0 r1\n"
		ahead += 3
	}
	for r, n := range held {
		text += "read r" + strconv.Itoa(r) + "\n"
		input = append(input, n)
		ahead++
	}
	for strings.Count(text, "\n") < 60 {
		text += "\n"
	}
	return text + instruction + "\nstop\na:\nstop\nfunc g\nback\n", append(input, 77), ahead
}

func TestEachInstruction(t *testing.T) {
	for _, c := range []struct {
		instruction string
		change      func(s *api.State)
	}{
		{"set r2 -9", func(s *api.State) { s.Regs[2] = -9 }},
		{"set r7 0", func(s *api.State) { s.Regs[7] = 0 }},
		{"mov r0 r6", func(s *api.State) { s.Regs[0] = -17 }},
		{"mov r6 r0", func(s *api.State) { s.Regs[6] = 3 }},
		{"mov r3 r3", func(s *api.State) {}},
		{"add r1 r2 r3", func(s *api.State) { s.Regs[1] = 18 }},
		{"add r1 r1 r1", func(s *api.State) { s.Regs[1] = 10 }},
		{"add r5 r6 r5", func(s *api.State) { s.Regs[5] = -4 }},
		{"sub r1 r2 r3", func(s *api.State) { s.Regs[1] = -4 }},
		{"sub r1 r3 r2", func(s *api.State) { s.Regs[1] = 4 }},
		{"sub r2 r2 r2", func(s *api.State) { s.Regs[2] = 0 }},
		{"sub r2 r3 r2", func(s *api.State) { s.Regs[2] = 4 }},
		{"mul r1 r2 r3", func(s *api.State) { s.Regs[1] = 77 }},
		{"mul r6 r6 r6", func(s *api.State) { s.Regs[6] = 289 }},
		{"mul r0 r6 r4", func(s *api.State) { s.Regs[0] = -34 }},
		{"inc r4 6", func(s *api.State) { s.Regs[4] = 8 }},
		{"inc r4 -6", func(s *api.State) { s.Regs[4] = -4 }},
		{"inc r4 0", func(s *api.State) {}},
		{"load r0 r1", func(s *api.State) { s.Regs[0] = 105 }},
		{"load r4 r4", func(s *api.State) { s.Regs[4] = 102 }},
		{"load r6 r7", func(s *api.State) { s.Regs[6] = 115 }},
		{"store r0 r1", func(s *api.State) { s.Cells[3] = 5 }},
		{"store r1 r0", func(s *api.State) { s.Cells[5] = 3 }},
		{"store r7 r6", func(s *api.State) { s.Cells[15] = -17 }},
		{"store r4 r4", func(s *api.State) { s.Cells[2] = 2 }},
		{"read r3", func(s *api.State) { s.Regs[3] = 77 }},
		{"write r6", func(s *api.State) { s.Out = []int64{-17} }},
		{"jump a", func(s *api.State) { s.At = 64 }},
		{"less r0 r1 a", func(s *api.State) { s.At = 64 }},
		{"less r1 r0 a", func(s *api.State) {}},
		{"less r1 r1 a", func(s *api.State) {}},
		{"less r6 r0 a", func(s *api.State) { s.At = 64 }},
		{"same r0 r1 a", func(s *api.State) {}},
		{"same r1 r1 a", func(s *api.State) { s.At = 64 }},
		{"call g", func(s *api.State) { s.At, s.Frames, s.Peak = 66, 2, 2 }},
		{"back", func(s *api.State) { s.At, s.Frames, s.End = 0, 0, api.Returned }},
		{"stop", func(s *api.State) { s.At, s.End = 0, api.Stopped }},
	} {
		text, input, ahead := withHeld(c.instruction)
		want := api.State{Steps: ahead, Regs: held, Frames: 1, Peak: 1, At: 61}
		for i := range want.Cells {
			want.Cells[i] = int64(100 + i)
		}
		traces(t, text, input, ahead, want)
		want.Steps, want.At = ahead+1, 62
		c.change(&want)
		traces(t, text, input, ahead+1, want)
	}
}

// edges: 64-bit numbers at whose sums and products the ends are met.
var edges = []int64{math.MinInt64, math.MinInt64 + 1, -1 << 62, -3037000500, -1 << 32, -2, -1, 0, 1, 2, 1 << 31, 1 << 32, 3037000499, 3037000500, 1<<62 - 1, 1 << 62, math.MaxInt64 - 1, math.MaxInt64}

// wrapped: a number modulo 2^64, as an int64.
func wrapped(n *big.Int) int64 {
	low := new(big.Int).And(n, new(big.Int).SetUint64(math.MaxUint64))
	return int64(low.Uint64())
}

func TestNumbersWrapRound(t *testing.T) {
	const text = "func f\nread r0\nread r1\nadd r2 r0 r1\nsub r3 r0 r1\nmul r4 r0 r1\nstop"
	for _, a := range edges {
		for _, b := range edges {
			x, y := big.NewInt(a), big.NewInt(b)
			want := [8]int64{a, b, wrapped(new(big.Int).Add(x, y)), wrapped(new(big.Int).Sub(x, y)), wrapped(new(big.Int).Mul(x, y))}
			traces(t, text, []int64{a, b}, 100, api.State{Steps: 6, Regs: want, Frames: 1, Peak: 1, End: api.Stopped})
			byNumber := "func f\nset r0 " + strconv.FormatInt(a, 10) + "\ninc r0 " + strconv.FormatInt(b, 10) + "\nback"
			traces(t, byNumber, nil, 100, api.State{Steps: 3, Regs: [8]int64{want[2]}, Peak: 1, End: api.Returned})
		}
	}
}

func TestLessAndSameOfAllNumbers(t *testing.T) {
	const text = "func f\nread r0\nread r1\nless r0 r1 a\nback\na:\nstop\n"
	for _, a := range edges {
		for _, b := range edges {
			for word, holds := range map[string]bool{"less": a < b, "same": a == b} {
				want := api.State{Steps: 4, Regs: [8]int64{a, b}, Peak: 1, End: api.Returned}
				if holds {
					want.Frames, want.End = 1, api.Stopped
				}
				traces(t, strings.Replace(text, "less", word, 1), []int64{a, b}, 100, want)
			}
		}
	}
}

func TestCellsThatAreThere(t *testing.T) {
	for n := range api.MaxCells {
		text := "func f\nset r0 " + strconv.Itoa(n) + "\nset r1 -8\nstore r0 r1\nload r2 r0\nstop"
		want := api.State{Steps: 5, Regs: [8]int64{int64(n), -8, -8}, Frames: 1, Peak: 1, End: api.Stopped}
		want.Cells[n] = -8
		traces(t, text, nil, 100, want)
	}
}

func TestCellsThatAreNotThere(t *testing.T) {
	for _, n := range []int64{-1, 16, 17, -16, 255, 256, 1 << 16, 1 << 31, 1 << 32, 1<<32 + 3, 1 << 62, math.MinInt64, math.MinInt64 + 5, math.MaxInt64} {
		for _, touch := range []string{"load r1 r0", "load r0 r0", "store r0 r1"} {
			text := "func f\nread r0\nread r1\n\n" + touch + "\nstop"
			want := api.State{Steps: 2, Regs: [8]int64{n, 9}, Frames: 1, Peak: 1, At: 5}
			traces(t, text, []int64{n, 9}, 2, want)
			want.End = api.FaultCell
			traces(t, text, []int64{n, 9}, 3, want)
			traces(t, text, []int64{n, 9}, api.MaxTrace, want)
		}
	}
}

func TestAFaultAtTheFirstInstruction(t *testing.T) {
	const text = "func f\na:\nload r0 r1\ninc r1 16\njump a"
	traces(t, text, nil, 3, api.State{Steps: 3, Regs: [8]int64{0, 16}, Frames: 1, Peak: 1, At: 3})
	traces(t, text, nil, 4, api.State{Steps: 3, Regs: [8]int64{0, 16}, Frames: 1, Peak: 1, At: 3, End: api.FaultCell})
}

func TestAFaultInACalledFunction(t *testing.T) {
	text := lines("func f / inc r0 -1 / write r0 / call g / stop / func g / store r0 r0 / back")
	want := api.State{Steps: 3, Regs: [8]int64{-1}, Out: []int64{-1}, Frames: 2, Peak: 2, At: 7}
	traces(t, text, nil, 3, want)
	want.End = api.FaultCell
	traces(t, text, nil, 4, want)
}

// chain: a program of n functions, each of which calls the one behind it.
func chain(n int) string {
	text := ""
	for i := range n {
		text += "func f" + strconv.Itoa(i) + "\ninc r0 1\n"
		if i < n-1 {
			text += "call f" + strconv.Itoa(i+1) + "\n"
		}
		text += "inc r1 1\nback\n"
	}
	return text
}

func TestAsManyFramesAsThereMayBe(t *testing.T) {
	const n = api.MaxFrames
	traces(t, chain(n), nil, 2*n-1, api.State{Steps: 2*n - 1, Regs: [8]int64{n}, Frames: n, Peak: n, At: 5*(n-1) + 3})
	traces(t, chain(n), nil, 1000, api.State{Steps: 4*n - 1, Regs: [8]int64{n, n}, Peak: n, End: api.Returned})
}

func TestOneFrameMoreThanThereMayBe(t *testing.T) {
	const n = api.MaxFrames
	want := api.State{Steps: 2*n - 1, Regs: [8]int64{n}, Frames: n, Peak: n, At: 5*(n-1) + 3}
	traces(t, chain(n+1), nil, 2*n-1, want)
	want.End = api.FaultFrame
	traces(t, chain(n+1), nil, 2*n, want)
	traces(t, chain(n+1), nil, api.MaxTrace, want)
}

func TestAFunctionThatCallsItself(t *testing.T) {
	const text = "func f\ncall f\nback"
	traces(t, text, nil, 15, api.State{Steps: 15, Frames: 16, Peak: 16, At: 2})
	traces(t, text, nil, 16, api.State{Steps: 15, Frames: 16, Peak: 16, At: 2, End: api.FaultFrame})
	counted := lines("func main / read r7 / call f / stop / func f / inc r0 1 / less r0 r7 a / back / a: / call f / write r0 / back")
	for deep := int64(1); deep < api.MaxFrames; deep++ {
		s := traced(t, counted, []int64{deep}, api.MaxTrace)
		if s.End != api.Stopped || s.Peak != int(deep)+1 || s.Frames != 1 || len(s.Out) != int(deep)-1 || s.Regs[0] != deep {
			t.Errorf("called %d times: %+v", deep, s)
		}
	}
	if s := traced(t, counted, []int64{api.MaxFrames}, api.MaxTrace); s.End != api.FaultFrame || s.Frames != 16 || s.Peak != 16 || s.At != 10 || len(s.Out) != 0 {
		t.Errorf("called too often: %+v", s)
	}
}

func TestFramesAreGivenBack(t *testing.T) {
	text := lines("func f / set r1 100 / a: / call g / inc r0 1 / less r0 r1 a / stop / func g / call h / back / func h / back")
	traces(t, text, nil, api.MaxTrace, api.State{Steps: 602, Regs: [8]int64{100, 100}, Frames: 1, Peak: 3, End: api.Stopped})
	for steps, want := range []struct{ frames, peak, at int }{{1, 1, 2}, {1, 1, 4}, {2, 2, 9}, {3, 3, 12}, {2, 3, 10}, {1, 3, 5}, {1, 3, 6}, {1, 3, 4}, {2, 3, 9}} {
		if s := traced(t, text, nil, steps); s.Frames != want.frames || s.Peak != want.peak || s.At != want.at || s.Steps != steps || s.End != api.Running {
			t.Errorf("behind %d steps: %+v, want %v", steps, s, want)
		}
	}
}

func TestFunctionsShareRegistersAndCells(t *testing.T) {
	text := lines("func f / set r0 4 / set r1 9 / call g / load r3 r2 / stop / func g / store r0 r1 / set r2 4 / set r0 -1 / back")
	want := api.State{Steps: 9, Regs: [8]int64{-1, 9, 4, 9}, Frames: 1, Peak: 2, End: api.Stopped}
	want.Cells[4] = 9
	traces(t, text, nil, 100, want)
}

func TestTheFirstFunctionIsRun(t *testing.T) {
	for text, regs := range map[string][8]int64{
		"func z / set r0 1 / stop / func a / set r0 2 / stop":                                                     {1},
		"func f / call h / stop / func g / inc r0 1 / back / func h / call g / call g / inc r1 1 / back":          {2, 1},
		"func back / call stop / stop / func stop / inc r3 1 / back / func call / set r3 9 / back":                {0, 0, 0, 1},
		"func f / same r0 r1 a / stop / a: / inc r0 1 / call g / stop / func g / same r0 r0 a / stop / a: / back": {1},
	} {
		if s := traced(t, lines(text), nil, 100); s.Regs != regs || s.End != api.Stopped || s.Frames != 1 {
			t.Errorf("Trace(%q) = %+v, want %v", text, s, regs)
		}
	}
}

func TestTheInputIsUsedUp(t *testing.T) {
	text := lines("func f / set r0 7 / read r0 / read r1 / set r2 6 / read r2 / read r3 / stop")
	for _, c := range []struct {
		input []int64
		want  [8]int64
	}{
		{nil, [8]int64{}},
		{[]int64{}, [8]int64{}},
		{[]int64{5}, [8]int64{5}},
		{[]int64{math.MinInt64, 0, math.MaxInt64}, [8]int64{math.MinInt64, 0, math.MaxInt64}},
		{[]int64{1, 2, 3, 4}, [8]int64{1, 2, 3, 4}},
		{[]int64{1, 2, 3, 4, 5, 6}, [8]int64{1, 2, 3, 4}},
		{[]int64{1, 2, 3, 4, 5, 6}[:2], [8]int64{1, 2}},
	} {
		traces(t, text, c.input, 100, api.State{Steps: 7, Regs: c.want, Frames: 1, Peak: 1, End: api.Stopped})
	}
}

func TestWhatIsPutOut(t *testing.T) {
	const text = "func f\na:\nread r0\nwrite r0\nwrite r1\njump a"
	traces(t, text, edges, 4*len(edges), api.State{Steps: 4 * len(edges), Out: withNoughts(edges), Regs: [8]int64{edges[len(edges)-1]}, Frames: 1, Peak: 1, At: 3})
	s := traced(t, "func f\na:\nwrite r0\ninc r0 1\njump a", nil, api.MaxTrace)
	if s.Steps != api.MaxTrace || len(s.Out) != 33334 || s.At != 4 {
		t.Errorf("%d steps, %d numbers put out, at line %d", s.Steps, len(s.Out), s.At)
	}
	for i, n := range s.Out {
		if n != int64(i) {
			t.Fatalf("number %d put out is %d", i, n)
		}
	}
}

func withNoughts(numbers []int64) []int64 {
	var all []int64
	for _, n := range numbers {
		all = append(all, n, 0)
	}
	return all
}

// TestTheLastStep: a run that was to make one step less, as many as there are, or more.
func TestTheLastStep(t *testing.T) {
	for _, c := range []struct {
		text          string
		steps         int
		end, frames   int
		lineOfTheLast int
		framesAhead   int
	}{
		{"func f / stop", 1, api.Stopped, 1, 2, 1},
		{"func f / back", 1, api.Returned, 0, 2, 1},
		{"func f / call g / back / func g / back", 3, api.Returned, 0, 3, 1},
		{"func f / call g / back / func g / stop", 2, api.Stopped, 2, 5, 2},
		{"func f / call g / stop / func g / call h / back / func h / back", 5, api.Stopped, 1, 3, 1},
		{"func f / jump a / stop / a: / back", 2, api.Returned, 0, 5, 1},
	} {
		text := lines(c.text)
		ahead := traced(t, text, nil, c.steps-1)
		if ahead.End != api.Running || ahead.Steps != c.steps-1 || ahead.At != c.lineOfTheLast || ahead.Frames != c.framesAhead {
			t.Errorf("%q ahead of its last step: %+v", c.text, ahead)
		}
		for _, steps := range []int{c.steps, c.steps + 1, api.MaxTrace} {
			s := traced(t, text, nil, steps)
			if s.End != c.end || s.Steps != c.steps || s.At != 0 || s.Frames != c.frames {
				t.Errorf("%q with %d steps: %+v", c.text, steps, s)
			}
		}
	}
}

func TestALastStepThatGoesOn(t *testing.T) {
	text := lines("func f / call g / stop / func g / back")
	traces(t, text, nil, 2, api.State{Steps: 2, Frames: 1, Peak: 2, At: 3})
	traces(t, lines("func f / a: / jump a"), nil, 1, api.State{Steps: 1, Frames: 1, Peak: 1, At: 3})
	traces(t, lines("func f / set r0 1 / stop"), nil, 1, api.State{Steps: 1, Regs: [8]int64{1}, Frames: 1, Peak: 1, At: 3})
}

func TestAsManyStepsAsThereMayBe(t *testing.T) {
	traces(t, lines("func f / a: / jump a"), nil, api.MaxTrace, api.State{Steps: api.MaxTrace, Frames: 1, Peak: 1, At: 3})
	// 1 step, two a round, and two more
	rounds := int64(api.MaxTrace/2 - 2)
	const loop = "func f\nread r1\na:\ninc r0 1\nless r0 r1 a\nset r2 1\nset r2 2\nstop"
	traces(t, loop, []int64{rounds}, api.MaxTrace, api.State{Steps: api.MaxTrace, Regs: [8]int64{rounds, rounds, 2}, Frames: 1, Peak: 1, End: api.Stopped})
	traces(t, strings.Replace(loop, "read", "\nread r7\nread", 1), []int64{0, rounds}, api.MaxTrace, api.State{Steps: api.MaxTrace, Regs: [8]int64{rounds, rounds, 2}, Frames: 1, Peak: 1, At: 10})
}

func TestNumbersOfStepsThatMayNotBe(t *testing.T) {
	for _, steps := range []int{-1, -2, -100000, math.MinInt, math.MinInt32, api.MaxTrace + 1, 2 * api.MaxTrace, 1 << 32, 1<<32 + 5, math.MaxInt} {
		for _, text := range []string{example, "func f\nback", "func f\nload r0 r1\nback"} {
			state, errno, line := bounded.Trace(text, []int64{1}, steps)
			if errno != api.ErrSteps || line != 0 || !sameState(state, api.State{}) || state.Out != nil {
				t.Errorf("Trace(%.40q, %d) = %+v, %d, %d, want ErrSteps, 0", text, steps, state, errno, line)
			}
		}
	}
}

func TestTraceTellsTheErrorsOfCheckFirst(t *testing.T) {
	texts := []string{"", "back", "; \xff", "func f\nset r8 1\nback", "func f\nback\nfunc f\nback", "func f\njump g", "func f\nset r0 1", "\nfunc f\nback\na:", strings.Repeat("\n", api.MaxLines), strings.Repeat(" ", api.MaxText+1)}
	for _, f := range later {
		texts = append(texts, "func first\nwrite r0\nback\n"+f.piece)
	}
	for _, text := range texts {
		errno, line := bounded.Check(text)
		if errno == api.OK {
			t.Fatalf("%q is right", text)
		}
		for _, steps := range []int{-1, 0, 1, api.MaxTrace, api.MaxTrace + 1, math.MinInt, math.MaxInt} {
			state, e, l := bounded.Trace(text, []int64{1, 2}, steps)
			if e != errno || l != line || !sameState(state, api.State{}) || state.Out != nil {
				t.Errorf("Trace(%.60q, %d) = %+v, %d, %d, want error %d, line %d", text, steps, state, e, l, errno, line)
			}
		}
	}
}

func TestLabelsAreForTheInstructionThatComesNext(t *testing.T) {
	for text, at := range map[string]int{
		"func f / jump a / a: / stop":                                                      4,
		"func f / jump a / a: /  / \t / stop":                                              6,
		"func f / jump a / a: / b: / c: / stop":                                            6,
		"func f / jump b / a: / b: / c: / stop":                                            6,
		"func f / jump a / a: ; back / ; stop / b: /  / ;;c: / stop / ; back / c: / back":  8,
		"func f / jump a / b: / stop / a: / jump b":                                        6,
		"func f / jump a / stop / func g / a: / stop / a2: / stop":                         0,
		"func f / jump a / stop / a: / stop / func g / a: / stop":                          5,
		"func f / same r0 r1 a / stop / a: /  / ; x / b: / stop":                           8,
		"func f / less r0 r1 a / stop / a: / stop":                                         3,
		"; x /  /   func f ; y /  / \t ; z / \tjump a / b: / \tstop /  / a: /  / \tjump b": 12,
		"func f / a: /  / jump a":                                                          4,
		"func f / call g / stop / func g /  / a: / ; x / b: / stop":                        9,
	} {
		if at == 0 {
			checks(t, lines(text), api.ErrMissing, 2)
			continue
		}
		if s := traced(t, lines(text), nil, 1); s.At != at || s.Steps != 1 {
			t.Errorf("Trace(%q, 1) = %+v, want line %d", text, s, at)
		}
	}
	traces(t, lines(" / ; x / func f / a: /  / b: ; y / stop"), nil, 0, api.State{Frames: 1, Peak: 1, At: 7})
}
