package bounded_test

import (
	"math"
	"math/rand"
	"reflect"
	"strconv"
	"strings"
	"testing"

	"bounded/api"
	"bounded/bounded"
)

// inputs: none, short ones and long ones, of small numbers and of the greatest.
func inputs() [][]int64 {
	all := [][]int64{nil, {}, {0}, {1}, {-1}, {15}, {16}, {7, 7, 7}, {math.MaxInt64, math.MinInt64}, {math.MinInt64, math.MaxInt64}}
	chance := rand.New(rand.NewSource(3))
	for _, numbers := range [][]int64{{0, 1}, {-1, 0, 1, 2, 3, 14, 15, 16}, {3, 4, 5, 6}, edges} {
		for range 4 {
			input := make([]int64, 1+chance.Intn(50))
			for i := range input {
				input[i] = numbers[chance.Intn(len(numbers))]
			}
			all = append(all, input)
		}
	}
	return all
}

// keeps holds a bound against runs: P4, P5 and P7.
func keeps(t *testing.T, text string, bound api.Bound, inputs [][]int64) {
	t.Helper()
	if bound.Steps < 1 || bound.Steps > api.MaxSteps || bound.Frames < 1 || bound.Frames > api.MaxFrames {
		t.Errorf("P4: %+v is no bound of\n%s", bound, text)
	}
	for _, input := range inputs {
		end := traced(t, text, input, api.MaxTrace)
		if end.End != api.Stopped && end.End != api.Returned || end.Steps > bound.Steps || end.Peak > bound.Frames {
			t.Errorf("P4: let in with %+v, but with the input %v it is at %+v:\n%s", bound, input, end, text)
			return
		}
		state, errno, line := bounded.Run(text, input)
		if errno != api.OK || line != 0 || !sameState(state, end) {
			t.Errorf("P5, P7: Run(%q, %v) = %+v, %d, %d, want %+v", text, input, state, errno, line, end)
		}
		sameEnd(t, text, input, state, bound)
	}
}

// sameEnd: Trace tells Run's end with as many steps as it has, and with as many as the bound; and one step sooner it tells none.
func sameEnd(t *testing.T, text string, input []int64, state api.State, bound api.Bound) {
	t.Helper()
	for _, steps := range []int{state.Steps, bound.Steps} {
		if end := traced(t, text, input, steps); !sameState(end, state) {
			t.Errorf("P7: Trace(%q, %v, %d) = %+v, but Run's end is %+v", text, input, steps, end, state)
		}
	}
	if sooner := traced(t, text, input, state.Steps-1); sooner.End != api.Running {
		t.Errorf("P7: Trace(%q, %v, %d) = %+v, but Run's end is %+v", text, input, state.Steps-1, sooner, state)
	}
}

// letIn: the program is let in, and the bound holds for some inputs. It answers the bound.
func letIn(t *testing.T, text string, some ...[]int64) api.Bound {
	t.Helper()
	bound, errno, line := bounded.Verify(text)
	if errno != api.OK || line != 0 {
		t.Errorf("Verify = %+v, %d, %d, want it let in:\n%s", bound, errno, line, text)
		return bound
	}
	if len(some) == 0 {
		some = inputs()
	}
	keeps(t, text, bound, some)
	return bound
}

func rejects(t *testing.T, text string) {
	t.Helper()
	if errno, line := bounded.Check(text); errno != api.OK {
		t.Fatalf("error %d, line %d of\n%s", errno, line, text)
	}
	if bound, errno, line := bounded.Verify(text); bound != (api.Bound{}) || errno != api.ErrRejected || line != 0 {
		t.Errorf("P4: Verify = %+v, %d, %d, want ErrRejected, 0:\n%s", bound, errno, line, text)
	}
	if state, errno, line := bounded.Run(text, []int64{3, 1, 4}); !reflect.DeepEqual(state, api.State{}) || errno != api.ErrRejected || line != 0 {
		t.Errorf("P5: Run = %+v, %d, %d, want ErrRejected, 0:\n%s", state, errno, line, text)
	}
}

func TestVerifyOfTheExample(t *testing.T) {
	if bound := letIn(t, example); bound != (api.Bound{Steps: 25, Frames: 1}) {
		t.Errorf("the example's bound is %+v", bound)
	}
	for _, change := range [][2]string{
		{"inc r0 1", "inc r0 0"}, {"inc r0 1", "inc r0 -1"}, {"inc r0 1", "add r0 r0 r2"}, {"inc r0 1", "read r0"}, {"inc r0 1", "set r0 1"},
		{"set r1 5", "read r1"}, {"set r1 5", "set r1 9223372036854775807"}, {"set r1 5", "set r1 100000"},
		{"write r0", "inc r1 1"}, {"write r0", "inc r0 -1"}, {"write r0", "read r1"}, {"write r0", "mov r1 r0\ninc r1 2"},
		{"write r0", "same r0 r2 again"}, {"jump out", "jump more"}, {"stop", "jump again"}, {"stop", "jump out"},
	} {
		if !strings.Contains(example, change[0]) {
			t.Fatalf("%q is not there", change[0])
		}
		rejects(t, strings.Replace(example, change[0], change[1], 1))
	}
}

func TestRunOfTheExample(t *testing.T) {
	for _, input := range inputs() {
		state, errno, line := bounded.Run(example, input)
		want := api.State{Steps: 25, Regs: [8]int64{5, 5}, Out: []int64{0, 1, 2, 3, 4}, Frames: 1, Peak: 1, End: api.Stopped}
		if errno != api.OK || line != 0 || !sameState(state, want) {
			t.Errorf("Run = %+v, %d, %d, want %+v", state, errno, line, want)
		}
	}
}

func TestRunTellsTheWholeState(t *testing.T) {
	text := lines("func f / read r7 / set r0 15 / store r0 r7 / call g / back / func g / write r7 / read r7 / write r7 / back")
	state, errno, line := bounded.Run(text, []int64{-5, 6, 9})
	want := api.State{Steps: 9, Regs: [8]int64{15, 0, 0, 0, 0, 0, 0, 6}, Out: []int64{-5, 6}, Peak: 2, End: api.Returned}
	want.Cells[15] = -5
	if errno != api.OK || line != 0 || !sameState(state, want) {
		t.Errorf("Run = %+v, %d, %d, want %+v", state, errno, line, want)
	}
	state, _, _ = bounded.Run(lines("func f / call g / back / func g / stop"), nil)
	if !sameState(state, api.State{Steps: 2, Frames: 2, Peak: 2, End: api.Stopped}) {
		t.Errorf("stopped in a called function: %+v", state)
	}
}

// TestRunAndTraceTellTheSameEnd: P7, where the end hangs on the input.
func TestRunAndTraceTellTheSameEnd(t *testing.T) {
	text := lines("func f / read r0 / less r0 r1 a / same r0 r1 b / back / a: / stop / b: / call g / back / func g / read r2 / write r2 / less r1 r2 c / back / c: / stop")
	for _, c := range []struct {
		input []int64
		want  api.State
	}{
		{[]int64{-1}, api.State{Steps: 3, Regs: [8]int64{-1}, Frames: 1, Peak: 1, End: api.Stopped}},
		{[]int64{1}, api.State{Steps: 4, Regs: [8]int64{1}, Peak: 1, End: api.Returned}},
		{nil, api.State{Steps: 9, Out: []int64{0}, Peak: 2, End: api.Returned}},
		{[]int64{0, 5}, api.State{Steps: 8, Regs: [8]int64{2: 5}, Out: []int64{5}, Frames: 2, Peak: 2, End: api.Stopped}},
	} {
		bound := letIn(t, text, c.input)
		traces(t, text, c.input, bound.Steps, c.want)
		traces(t, text, c.input, api.MaxTrace, c.want)
		if state, errno, line := bounded.Run(text, c.input); errno != api.OK || line != 0 || !sameState(state, c.want) {
			t.Errorf("P7: Run(%v) = %+v, %d, %d, want %+v", c.input, state, errno, line, c.want)
		}
	}
}

// TestProgramsThatReadNothing: all is known of them, so the bound is what they take.
func TestProgramsThatReadNothing(t *testing.T) {
	for _, text := range []string{
		"func f / back",
		"func f / stop",
		"func f / stop / a: / jump a",
		"func f / back / func g / a: / jump a / func h / call h / back",
		"func f / jump b / a: / stop / b: / jump a",
		"func f / set r1 1 / less r0 r1 b / a: / jump a / b: / back",
		"func f / same r0 r1 b / a: / jump a / b: / back",
		"func f / less r0 r1 a / same r0 r1 b / a: / jump a / b: / back",
		// loops in loops, and one whose limit is the counter of the one around it
		"func f / set r4 7 / set r5 3 / a: / less r0 r4 b / back / b: / set r1 0 / c: / less r1 r5 d / jump g / d: / set r2 0 / e: / inc r2 1 / less r2 r0 e / inc r1 1 / jump c / g: / inc r0 2 / jump a",
		// a call inside a loop that changes the counter, or the limit
		"func f / set r1 10 / a: / less r0 r1 b / back / b: / call g / jump a / func g / inc r0 3 / back",
		"func f / set r1 10 / a: / less r0 r1 b / back / b: / call g / inc r0 1 / jump a / func g / inc r1 -1 / back",
		"func f / set r1 10 / a: / less r0 r1 b / back / b: / call g / inc r0 1 / jump a / func g / set r1 3 / call h / back / func h / set r1 4 / back",
		// a jump into a loop from outside
		"func f / set r0 3 / set r1 5 / jump m / a: / less r0 r1 m / stop / m: / inc r0 1 / jump a",
		"func f / set r1 5 / jump m / a: / set r0 2 / b: / less r0 r1 m / stop / m: / inc r0 1 / jump b",
		// counters down, by other steps, and by other registers
		"func f / set r0 100 / a: / inc r0 -7 / less r1 r0 a / stop",
		"func f / set r0 100 / set r2 3 / a: / sub r0 r0 r2 / same r0 r2 b / less r1 r0 a / b: / stop",
		"func f / set r1 1000 / set r0 1 / a: / add r0 r0 r0 / less r0 r1 a / stop",
		"func f / set r1 1000 / set r0 2 / a: / mul r0 r0 r0 / less r0 r1 a / stop",
		"func f / set r1 5 / a: / mov r2 r0 / inc r2 1 / mov r0 r2 / same r0 r1 b / jump a / b: / stop",
		// a counter in a cell, and one that tells the cell
		"func f / set r1 5 / set r2 12 / a: / load r0 r2 / inc r0 1 / store r2 r0 / less r0 r1 a / stop",
		"func f / set r1 16 / a: / store r0 r0 / load r2 r0 / inc r2 1 / mov r0 r2 / less r0 r1 a / stop",
		// calls by a counter
		"func f / set r1 16 / inc r0 1 / call g / stop / func g / inc r0 1 / less r0 r1 a / back / a: / call g / back",
		"func f / set r1 100 / a: / call g / inc r0 1 / less r0 r1 a / stop / func g / call h / call h / back / func h / back",
	} {
		bound := letIn(t, lines(text))
		if end := traced(t, lines(text), nil, api.MaxTrace); bound != (api.Bound{Steps: end.Steps, Frames: end.Peak}) {
			t.Errorf("%+v, but it takes %d steps and %d frames:\n%s", bound, end.Steps, end.Peak, lines(text))
		}
	}
}

func TestCountersThatPassTheEndsOfTheNumbers(t *testing.T) {
	const most, least = "9223372036854775807", "-9223372036854775808"
	for _, text := range []string{
		"func f / set r0 9223372036854775800 / a: / inc r0 1 / less r1 r0 a / stop",
		"func f / set r0 -9223372036854775800 / a: / inc r0 -1 / less r0 r1 a / stop",
		"func f / set r0 -9223372036854775800 / set r2 3 / a: / sub r0 r0 r2 / less r0 r1 a / stop",
		"func f / set r0 9223372036854775800 / set r2 3 / a: / add r0 r0 r2 / less r1 r0 a / stop",
		"func f / set r0 1 / set r2 2 / a: / mul r0 r0 r2 / same r0 r1 b / jump a / b: / stop",
		"func f / set r0 4611686018427387904 / set r1 4611686018427387910 / a: / less r0 r1 b / stop / b: / inc r0 1 / jump a",
		"func f / set r0 " + least + " / set r1 -9223372036854775800 / a: / less r0 r1 b / stop / b: / inc r0 1 / jump a",
		"func f / set r0 9223372036854775800 / set r1 " + most + " / a: / less r0 r1 b / stop / b: / inc r0 1 / jump a",
		"func f / set r0 " + most + " / inc r0 -9223372036854775808 / inc r0 16 / load r1 r0 / stop",
	} {
		bound := letIn(t, lines(text))
		if end := traced(t, lines(text), nil, api.MaxTrace); bound.Steps != end.Steps {
			t.Errorf("%+v, but it takes %d steps:\n%s", bound, end.Steps, lines(text))
		}
	}
	for _, text := range []string{
		// the counter steps over the limit, and wraps round
		"func f / set r0 9223372036854775800 / set r1 " + most + " / a: / less r0 r1 b / stop / b: / inc r0 5 / jump a",
		"func f / set r1 " + most + " / set r2 4611686018427387904 / a: / less r0 r1 b / stop / b: / add r0 r0 r2 / jump a",
		"func f / set r0 9223372036854775800 / set r1 " + most + " / a: / less r0 r1 b / stop / b: / inc r0 9223372036854775807 / jump a",
		"func f / set r1 " + most + " / a: / less r0 r1 b / stop / b: / inc r0 " + least + " / jump a",
		"func f / set r0 9223372036854775800 / a: / inc r0 1 / load r2 r1 / same r0 r1 b / jump a / b: / stop",
		"func f / set r0 " + most + " / inc r0 1 / load r1 r0 / stop",
		"func f / read r0 / set r1 9223372036854775800 / a: / less r0 r1 b / stop / b: / inc r0 7 / jump a",
		"func f / read r0 / less r0 r1 b / inc r0 1 / less r0 r1 c / b: / stop / c: / jump c",
		"func f / read r0 / less r1 r0 b / inc r0 -1 / less r1 r0 c / b: / stop / c: / jump c",
		"func f / read r0 / less r1 r0 b / sub r0 r1 r0 / less r0 r1 c / b: / stop / c: / jump c",
		"func f / read r0 / mul r0 r0 r0 / less r0 r1 c / stop / c: / jump c",
	} {
		rejects(t, lines(text))
	}
}

// TestProgramsThatReadAreBounded: the steps are what the input that takes most makes.
func TestProgramsThatReadAreBounded(t *testing.T) {
	for _, c := range []struct {
		text          string
		steps, frames int
		most          []int64
	}{
		{"func f / read r0 / write r0 / stop", 3, 1, nil},
		{"func f / set r1 10 / a: / read r2 / write r2 / inc r0 1 / less r0 r1 a / stop", 42, 1, nil},
		// one way is longer than the other
		{"func f / read r0 / same r0 r1 a / write r0 / write r0 / a: / stop", 5, 1, []int64{1}},
		{"func f / read r0 / less r0 r1 a / stop / a: / write r0 / write r0 / stop", 5, 1, []int64{-1}},
		{"func f / read r0 / less r0 r1 a / back / a: / call g / back / func g / call h / back / func h / stop", 5, 3, []int64{-1}},
		// a limit that is read, and cut off
		{"func f / read r1 / set r2 10 / less r1 r2 a / mov r1 r2 / a: / less r0 r1 b / stop / b: / inc r0 1 / jump a", 36, 1, []int64{99}},
		{"func f / read r0 / less r0 r3 z / set r2 10 / less r0 r2 a / z: / set r0 0 / a: / same r0 r3 b / inc r0 -1 / jump a / b: / stop", 33, 1, []int64{9}},
		// the rounds take more or fewer steps by what is read
		{"func f / set r1 100 / a: / read r2 / less r2 r3 b / write r2 / write r2 / b: / inc r0 1 / less r0 r1 a / stop", 602, 1, nil},
		{"func f / set r1 20 / a: / read r2 / same r2 r3 b / inc r0 1 / b: / inc r0 1 / less r0 r1 a / stop", 83, 1, []int64{0, 0, 0, 0, 0, 0, 0, 0, 0, 0, 0, 0, 0, 0, 0, 0, 0, 0, 0, 1}},
		// the loop is left early by what is read
		{"func f / set r1 20 / a: / read r2 / same r2 r4 b / inc r0 1 / less r0 r1 a / b: / stop", 82, 1, []int64{1, 1, 1, 1, 1, 1, 1, 1, 1, 1, 1, 1, 1, 1, 1, 1, 1, 1, 1, 1}},
		// nothing is known of the register, but what it is to itself
		{"func f / read r0 / a: / less r0 r0 a / same r0 r0 b / jump a / b: / sub r1 r0 r0 / load r2 r1 / stop", 6, 1, nil},
		// cells that are read in, and such as were not
		{"func f / read r2 / set r0 3 / store r0 r2 / set r1 4 / load r3 r1 / load r4 r3 / stop", 7, 1, nil},
		{"func f / read r2 / store r0 r2 / set r2 7 / store r0 r2 / load r3 r0 / load r4 r3 / stop", 7, 1, nil},
		// calls by what is read, no deeper than there may be frames
		{"func f / set r1 14 / call g / stop / func g / inc r0 1 / read r2 / same r2 r3 b / less r0 r1 a / b: / back / a: / call g / back", 3 + 14*6 - 1, 15, []int64{1, 1, 1, 1, 1, 1, 1, 1, 1, 1, 1, 1, 1, 1, 1, 1, 1, 1, 1, 1}},
	} {
		text := lines(c.text)
		bound := letIn(t, text)
		end := traced(t, text, c.most, api.MaxTrace)
		if end.Steps != c.steps || end.Peak != c.frames || bound != (api.Bound{Steps: c.steps, Frames: c.frames}) {
			t.Errorf("%+v, but with %v it takes %d steps and %d frames, want %d and %d:\n%s", bound, c.most, end.Steps, end.Peak, c.steps, c.frames, text)
		}
	}
}

func TestProgramsThatNeverEnd(t *testing.T) {
	for _, text := range []string{
		"func f / a: / jump a",
		"func f / jump b / a: / jump c / b: / jump a / c: / jump b",
		"func f / a: / read r0 / write r0 / jump a",
		"func f / a: / inc r0 1 / jump a",
		"func f / a: / same r0 r0 a / stop",
		"func f / a: / less r0 r1 b / jump a / b: / stop",
		"func f / call g / stop / func g / a: / jump a",
		"func f / a: / call g / jump a / func g / back",
		"func f / set r1 5 / a: / less r0 r1 b / stop / b: / jump a",
		"func f / set r1 5 / a: / less r0 r1 b / stop / b: / call g / inc r0 1 / jump a / func g / set r0 0 / back",
		"func f / set r1 5 / a: / less r0 r1 b / stop / b: / call g / inc r0 1 / jump a / func g / inc r1 1 / back",
		"func f / set r1 5 / a: / less r0 r1 b / stop / b: / call g / inc r0 1 / jump a / func g / call h / back / func h / mov r1 r0 / inc r1 2 / back",
		"func f / set r1 5 / jump m / a: / less r0 r1 b / stop / b: / inc r0 1 / m: / set r0 -1 / jump a",
		"func f / set r0 7 / set r1 9 / set r3 1 / a: / set r2 0 / b: / inc r2 1 / less r2 r1 b / sub r0 r3 r0 / less r0 r1 a / stop",
	} {
		rejects(t, lines(text))
	}
}

func TestProgramsThatEndOrNotByWhatTheyRead(t *testing.T) {
	for _, text := range []string{
		"func f / a: / read r0 / less r0 r1 a / stop",
		"func f / a: / read r0 / same r0 r1 b / jump a / b: / stop",
		"func f / read r1 / a: / less r0 r1 b / stop / b: / inc r0 1 / jump a",
		"func f / read r0 / a: / less r1 r0 b / back / b: / inc r0 1 / jump a",
		"func f / read r0 / set r1 5 / a: / less r0 r1 b / stop / b: / inc r0 1 / jump a",
		"func f / read r2 / set r1 5 / a: / less r0 r1 b / stop / b: / add r0 r0 r2 / jump a",
		"func f / read r0 / less r0 r1 a / stop / a: / jump a",
		"func f / read r0 / set r1 -9223372036854775808 / same r0 r1 a / stop / a: / jump a",
		"func f / read r0 / set r1 9223372036854775807 / same r0 r1 a / stop / a: / jump a",
		"func f / read r0 / set r1 123456789 / same r0 r1 a / stop / a: / jump a",
		"func f / read r0 / same r0 r1 a / b: / jump b / a: / stop",
		// behind one loop that ends there is one that does not, for some
		"func f / set r1 20 / a: / read r2 / same r2 r4 b / inc r0 1 / less r0 r1 a / b: / less r0 r1 c / stop / c: / jump c",
		// by a cell
		"func f / read r0 / store r1 r0 / a: / load r2 r1 / same r2 r1 b / stop / b: / jump a",
		"func f / read r0 / set r2 3 / less r0 r1 z / less r0 r2 y / z: / stop / y: / set r3 1 / store r0 r3 / load r4 r1 / a: / same r4 r3 a / stop",
		"func f / read r0 / set r2 3 / less r0 r1 z / less r0 r2 y / z: / stop / y: / set r3 1 / store r1 r3 / load r4 r0 / a: / same r4 r3 a / stop",
	} {
		rejects(t, lines(text))
	}
}

// TestAsManyStepsAsABoundMayBe: one step more, or one more with some input, is too many.
func TestAsManyStepsAsABoundMayBe(t *testing.T) {
	const text = "func f\nset r1 49998\na:\ninc r0 1\nless r0 r1 a\nread r2\nsame r2 r3 b\nb:\nstop"
	if bound := letIn(t, text, nil, []int64{1}); bound != (api.Bound{Steps: api.MaxSteps, Frames: 1}) {
		t.Errorf("bound %+v", bound)
	}
	rejects(t, strings.Replace(text, "b:", "write r2\nb:", 1))
	rejects(t, strings.Replace(text, "b:", "jump b\nb:", 1))
	rejects(t, strings.Replace(text, "b:", "b:\nwrite r2", 1))
	rejects(t, strings.Replace(text, "49998", "49999", 1))
	rejects(t, strings.Replace(text, "49998", "1000000000", 1))
	returns := strings.Replace(text, "stop", "back", 1)
	if bound := letIn(t, returns, nil, []int64{1}); bound.Steps != api.MaxSteps {
		t.Errorf("bound %+v", bound)
	}
	rejects(t, strings.Replace(returns, "read r2", "read r2\nwrite r2", 1))
	called := "func f\ncall g\nback\nfunc g\n" + strings.Replace(strings.TrimPrefix(text, "func f\n"), "stop", "back", 1)
	rejects(t, called)
	if bound := letIn(t, strings.Replace(called, "49998", "49997", 1), nil, []int64{1}); bound != (api.Bound{Steps: api.MaxSteps, Frames: 2}) {
		t.Errorf("bound %+v", bound)
	}
	rejects(t, lines("func f / set r1 300 / set r3 1000 / a: / less r0 r1 b / back / b: / set r2 0 / d: / less r2 r3 e / jump g / e: / inc r2 1 / jump d / g: / inc r0 1 / jump a"))
}

func TestAsManyFramesAsABoundMayBe(t *testing.T) {
	for n := 1; n <= api.MaxFrames; n++ {
		if bound := letIn(t, chain(n)); bound != (api.Bound{Steps: 4*n - 1, Frames: n}) {
			t.Errorf("%d functions: %+v", n, bound)
		}
	}
	for n := api.MaxFrames + 1; n < 40; n++ {
		rejects(t, chain(n))
	}
	rejects(t, lines("func f / call f / back"))
	rejects(t, lines("func f / call g / stop / func g / call f / back"))
	rejects(t, lines("func f / call g / stop / func g / call h / back / func h / call g / back"))
	rejects(t, lines("func f / read r0 / same r0 r1 a / call f / a: / back"))
	// the last one is called only with some input
	maybe := strings.Replace(chain(api.MaxFrames+1), "call f16\n", "read r2\nsame r2 r3 a\ncall f16\na:\n", 1)
	rejects(t, maybe)
	if bound := letIn(t, strings.Replace(maybe, "call f16\n", "", 1)); bound.Frames != api.MaxFrames {
		t.Errorf("%+v", bound)
	}
	rejects(t, lines("func f / set r1 17 / inc r0 1 / call g / stop / func g / inc r0 1 / less r0 r1 a / back / a: / call g / back"))
	rejects(t, lines("func f / set r1 15 / call g / stop / func g / inc r0 1 / read r2 / same r2 r3 b / b: / less r1 r0 c / call g / c: / back"))
}

func TestCellsAtTheEdges(t *testing.T) {
	for _, touch := range []string{"load r1 r0", "load r0 r0", "store r0 r1", "store r0 r0"} {
		for n := range api.MaxCells {
			if bound := letIn(t, "func f\nset r0 "+strconv.Itoa(n)+"\n"+touch+"\nstop"); bound.Steps != 3 {
				t.Errorf("cell %d: %+v", n, bound)
			}
		}
		for _, n := range []int64{-1, 16, 17, -16, 1 << 32, 1<<32 + 3, math.MinInt64, math.MaxInt64} {
			rejects(t, "func f\nset r0 "+strconv.FormatInt(n, 10)+"\n"+touch+"\nstop")
		}
		rejects(t, "func f\nread r0\n"+touch+"\nstop")
	}
	const loop = "func f / set r0 A / set r1 B / a: / less r0 r1 b / jump c / b: / TOUCH / inc r0 C / jump a / c: / back"
	for _, c := range []struct {
		a, b, c string
		in      bool
	}{
		{"0", "16", "1", true}, {"0", "17", "1", false}, {"-1", "16", "1", false}, {"15", "16", "1", true}, {"16", "17", "1", false}, {"16", "16", "1", true}, {"99", "16", "1", true},
		{"0", "20", "15", true}, {"0", "20", "16", false}, {"3", "30", "12", false}, {"3", "27", "12", true}, {"-1", "0", "1", false}, {"0", "1", "1000", true},
	} {
		for _, touch := range []string{"load r2 r0", "store r0 r1", "store r0 r0"} {
			text := lines(strings.NewReplacer("A", c.a, "B", c.b, "C", c.c, "TOUCH", touch).Replace(loop))
			if c.in {
				letIn(t, text)
			} else {
				rejects(t, text)
			}
		}
	}
}

// TestCellsThatAreReadAndHeldAgainstTheEdges: what a comparison tells of a number that was read.
func TestCellsThatAreReadAndHeldAgainstTheEdges(t *testing.T) {
	const text = "func f / set r6 LOW / set r7 HIGH / read r0 / less r0 r6 out / less r0 r7 in / out: / stop / in: / TOUCH / stop"
	const turned = "func f / set r6 LOW / set r7 HIGH / read r0 / less r0 r6 out / inc r7 -1 / less r7 r0 out / TOUCH / out: / stop"
	for _, form := range []string{text, turned} {
		for _, c := range []struct {
			low, high string
			in        bool
		}{{"0", "16", true}, {"15", "16", true}, {"0", "1", true}, {"16", "16", true}, {"-1", "16", false}, {"0", "17", false}, {"-1", "0", false}, {"16", "17", false}} {
			for _, touch := range []string{"load r1 r0", "store r0 r1"} {
				made := lines(strings.NewReplacer("LOW", c.low, "HIGH", c.high, "TOUCH", touch).Replace(form))
				if c.in {
					letIn(t, made)
				} else {
					rejects(t, made)
				}
			}
		}
	}
	for text, in := range map[string]bool{
		"func f / set r5 15 / read r0 / same r0 r5 a / stop / a: / load r1 r0 / stop":                                                                       true,
		"func f / set r5 15 / read r0 / same r5 r0 a / stop / a: / store r0 r5 / stop":                                                                      true,
		"func f / set r5 16 / read r0 / same r0 r5 a / stop / a: / load r1 r0 / stop":                                                                       false,
		"func f / set r5 15 / read r0 / same r0 r5 a / load r1 r0 / stop / a: / stop":                                                                       false,
		"func f / set r5 5 / read r0 / less r0 r4 z / less r5 r0 z / load r1 r0 / inc r0 11 / same r0 r6 z / load r1 r0 / z: / stop":                        false,
		"func f / set r5 5 / set r6 16 / read r0 / less r0 r4 z / less r5 r0 z / load r1 r0 / inc r0 11 / same r0 r6 z / load r1 r0 / z: / stop":            true,
		"func f / read r0 / read r1 / set r5 16 / less r0 r4 z / less r1 r5 a / z: / stop / a: / less r0 r1 b / stop / b: / load r2 r0 / load r2 r1 / stop": true,
		"func f / read r0 / read r1 / set r5 16 / less r0 r4 z / less r1 r5 a / z: / stop / a: / less r1 r0 b / stop / b: / load r2 r0 / stop":              false,
		// it is known of the register that was compared, and of no other
		"func f / read r0 / set r5 16 / less r0 r4 z / less r0 r5 a / z: / stop / a: / read r0 / load r1 r0 / stop":                          false,
		"func f / read r0 / read r1 / set r5 16 / less r0 r4 z / less r0 r5 a / z: / stop / a: / load r2 r1 / stop":                          false,
		"func f / read r0 / set r5 16 / less r0 r4 z / less r0 r5 a / z: / stop / a: / call g / load r1 r0 / stop / func g / read r0 / back": false,
		// a cell that may have been stored into
		"func f / set r3 16 / read r0 / less r0 r4 z / less r0 r3 a / z: / stop / a: / store r0 r3 / set r1 5 / load r1 r1 / load r1 r1 / stop":                          false,
		"func f / set r3 16 / read r0 / less r0 r4 z / less r0 r3 a / z: / stop / a: / store r0 r3 / set r1 5 / store r1 r4 / load r1 r1 / load r1 r1 / stop":            true,
		"func f / set r3 16 / read r0 / less r0 r4 z / set r5 5 / less r0 r5 a / z: / stop / a: / store r0 r3 / set r1 5 / load r1 r1 / load r1 r1 / stop":               true,
		"func f / set r3 16 / set r1 5 / store r1 r3 / read r0 / less r0 r4 z / less r0 r3 a / z: / stop / a: / store r0 r4 / load r1 r1 / load r1 r1 / stop":            false,
		"func f / set r3 16 / set r1 5 / store r1 r3 / read r0 / less r0 r4 z / less r0 r3 a / z: / stop / a: / load r1 r0 / load r1 r1 / stop":                          false,
		"func f / set r3 16 / set r1 5 / store r1 r3 / read r0 / less r0 r4 z / less r0 r1 a / z: / stop / a: / load r1 r0 / load r1 r1 / stop":                          true,
		"func f / set r3 15 / set r1 5 / store r1 r3 / read r0 / less r0 r4 z / inc r3 1 / less r0 r3 a / z: / stop / a: / load r1 r0 / load r1 r1 / store r1 r1 / stop": true,
	} {
		if in {
			letIn(t, lines(text))
		} else {
			rejects(t, lines(text))
		}
	}
}

func TestVerifyAndRunTellTheErrorsOfCheckFirst(t *testing.T) {
	texts := []string{"", "back", "; \xff", "func f\nset r8 1\nback", "func f\nback\nfunc f\nback", "func f\njump g", "func f\nset r0 1", "\nfunc f\nback\na:", strings.Repeat("\n", api.MaxLines), strings.Repeat(" ", api.MaxText+1)}
	for _, f := range later {
		texts = append(texts, "func first\nwrite r0\nback\n"+f.piece, "func first\na:\njump a\n"+f.piece)
	}
	for _, text := range texts {
		errno, line := bounded.Check(text)
		if errno == api.OK {
			t.Fatalf("%q is right", text)
		}
		if bound, e, l := bounded.Verify(text); bound != (api.Bound{}) || e != errno || l != line {
			t.Errorf("Verify(%.60q) = %+v, %d, %d, want error %d, line %d", text, bound, e, l, errno, line)
		}
		if state, e, l := bounded.Run(text, []int64{1, 2}); !reflect.DeepEqual(state, api.State{}) || e != errno || l != line {
			t.Errorf("Run(%.60q) = %+v, %d, %d, want error %d, line %d", text, state, e, l, errno, line)
		}
	}
}
