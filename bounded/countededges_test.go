package bounded_test

import (
	"strconv"
	"strings"
	"testing"

	"bounded/api"
)

// counted: a program that P6 tells of is let in, with a bound that P6 allows; and P7 holds with some inputs. It answers the bound.
func counted(t *testing.T, text string, some ...[]int64) api.Bound {
	t.Helper()
	weight, counts := weigh(text)
	if !counts {
		t.Fatalf("that is no counted program:\n%s", text)
	}
	bound := letIn(t, text, some...)
	if functions := len(split(text)); bound.Steps > 2*weight+10 || bound.Frames > functions {
		t.Errorf("P6: %+v of %d functions that weigh %d:\n%s", bound, functions, weight, text)
	}
	return bound
}

// countedBody is as counted, of a program of one function.
func countedBody(t *testing.T, body string, some ...[]int64) {
	t.Helper()
	counted(t, "func f\n"+body+"back", some...)
}

// few are inputs for many programs, or for such as take long.
func few() [][]int64 { return [][]int64{nil, {-1, 7, far}} }

func TestPlainPieces(t *testing.T) {
	for _, plain := range []string{
		"set r7 -9223372036854775808", "set r6 9223372036854775807", "mov r7 r0", "mov r6 r7", "add r7 r1 r7", "sub r7 r0 r6", "mul r7 r7 r7", "mul r6 r7 r0", "inc r7 1", "inc r6 -9223372036854775808",
		"read r7", "write r7", "write r0", "write r1",
		// a held register is given no other value than it has
		"mov r0 r0", "mov r1 r1", "inc r0 0", "inc r5 0",
	} {
		countedBody(t, plain+"\n")
		body := "read r6\n" + plain + "\n"
		for i, label := range []string{"a", "b", "c"} {
			body = loop{i: 2 * i, n: 2*i + 1, from: -1, to: 1, by: 1}.text(label, body)
		}
		countedBody(t, "read r0\nread r7\n"+body+plain+"\n")
	}
}

// TestHeldRegistersMayBeGivenTheirOwnValue: by instructions of which only the registers' values tell it.
func TestHeldRegistersMayBeGivenTheirOwnValue(t *testing.T) {
	for _, plain := range []string{"set r1 9", "add r0 r0 r7", "add r0 r7 r0", "sub r1 r1 r7", "mul r0 r0 r6", "mov r1 r5"} {
		body := loop{i: 0, n: 1, from: -3, to: 9, by: 2}.text("a", "read r3\n"+plain+"\n")
		if bound := letIn(t, "func f\nset r6 1\nset r5 9\n"+body+"back"); bound.Steps != 2+2+6*(1+2+2)+2+1 {
			t.Errorf("%q: %+v", plain, bound)
		}
	}
}

// TestLoopsAtTheEdges: at both ends of what a and b may be, with the least and the greatest c; done no time, a few times, and as often as the weight allows.
func TestLoopsAtTheEdges(t *testing.T) {
	const most = (api.MaxWeight-4)/4 - 1
	for _, by := range []int64{1, 2, 999, 1000} {
		for _, times := range []int64{0, 1, 2, 100, most} {
			// the counter ends just at the limit, or as far behind it as may be
			for _, wide := range []int64{times * by, max((times-1)*by+1, 0)} {
				for _, from := range []int64{-far, -wide, -wide / 2, 0, 1, far - wide} {
					l := loop{i: 6, n: 2, from: from, to: from + wide, by: by}
					if l.times() != int(times) {
						t.Fatalf("%+v is done %d times, want %d", l, l.times(), times)
					}
					countedBody(t, l.text("a", ""), nil)
				}
			}
		}
	}
}

// TestLoopsThatAreDoneNoTime: what is in them is never done, but weighs.
func TestLoopsThatAreDoneNoTime(t *testing.T) {
	inner := loop{i: 2, n: 3, from: 0, to: 16, by: 1}.text("b", "store r2 r0\ncall g\n")
	for _, l := range []loop{
		{from: far, to: -far}, {from: far, to: far}, {from: -far, to: -far}, {from: 0, to: 0}, {from: 16, to: 16}, {from: 17, to: 16}, {from: far, to: 16}, {from: 0, to: -far},
		{from: 1, to: 0}, {from: 0, to: -1}, {from: far, to: far - 1}, {from: 1 - far, to: -far},
	} {
		for _, by := range []int64{1, 1000} {
			l.i, l.n, l.by = 0, 1, by
			countedBody(t, l.text("a", ""))
			text := "func f\nread r5\n" + l.text("a", inner) + "write r5\nback\nfunc g\n" + loop{i: 4, n: 5, to: 9, by: by}.text("a", "read r6\n") + "back"
			if bound := counted(t, text); bound.Frames != 1 {
				t.Errorf("%+v of\n%s", bound, text)
			}
		}
	}
}

// TestTouchesByNumber: all cells, out of loops and in them.
func TestTouchesByNumber(t *testing.T) {
	for k := range api.MaxCells {
		for _, touch := range []string{"load r3 r2", "load r2 r2", "store r2 r3", "store r2 r2", "store r2 r0", "store r2 r1"} {
			pieces := "set r2 " + strconv.Itoa(k) + "\n" + touch + "\n"
			countedBody(t, pieces)
			countedBody(t, "read r3\n"+loop{i: 0, n: 1, from: -5, to: 20, by: 10}.text("a", pieces+pieces)+pieces, few()...)
		}
	}
	rejects(t, lines("func f / set r2 16 / load r3 r2 / back"))
	rejects(t, lines("func f / set r2 -1 / store r2 r3 / back"))
}

// TestTouchesByACounter: by that of the loop next around them, and by one further out.
func TestTouchesByACounter(t *testing.T) {
	between := loop{i: 0, n: 1, from: -far, to: -far + 3, by: 2}
	for _, l := range []loop{
		{from: 0, to: 16, by: 1}, {from: 0, to: 16, by: 1000}, {from: 15, to: 16, by: 1}, {from: 15, to: 16, by: 1000}, {from: 1, to: 15, by: 7}, {from: 0, to: 1, by: 1},
		{from: 16, to: 16, by: 1}, {from: 0, to: 0, by: 1}, {from: far, to: 16, by: 1}, {from: 0, to: -far, by: 1000},
	} {
		l.i, l.n = 5, 4
		for _, touch := range []string{"load r6 r5", "store r5 r6", "store r5 r5", "store r5 r4", "store r5 r0", "load r6 r5\nread r6\nstore r5 r6\nload r7 r5"} {
			countedBody(t, l.text("a", touch+"\n"))
			countedBody(t, l.text("a", between.text("b", touch+"\n")+touch+"\n")+l.text("c", touch+"\n"), few()...)
		}
	}
	for _, l := range []loop{{from: 0, to: 17, by: 1}, {from: -1, to: 16, by: 1}, {from: -1, to: 0, by: 1000}} {
		l.i, l.n = 5, 4
		rejects(t, "func f\n"+l.text("a", "load r6 r5\n")+"back")
		rejects(t, "func f\n"+l.text("a", between.text("b", "store r5 r6\n"))+"back")
	}
}

// deep is a loop in a loop, one for each limit: the outermost one has r0 and r1, the next one r2 and r3.
func deep(label, body string, limits ...int64) string {
	for at := len(limits) - 1; at >= 0; at-- {
		body = loop{i: 2 * at, n: 2*at + 1, to: limits[at], by: 1}.text(label+strconv.Itoa(at), body)
	}
	return body
}

func TestLoopsInLoops(t *testing.T) {
	for _, limits := range [][]int64{
		{1}, {16}, {1, 1}, {16, 16}, {0, 16}, {16, 0}, {1, 1, 1}, {3, 4, 5}, {0, 16, 16}, {16, 0, 16}, {16, 16, 0}, {2, 2, 16}, {16, 2, 2}, {5, 5, 5},
	} {
		touches := "read r6\n"
		for i := range limits {
			touches += "store r" + strconv.Itoa(2*i) + " r6\nload r7 r" + strconv.Itoa(2*i) + "\n"
		}
		for _, body := range []string{"", "write r0\n", touches + "set r7 15\nstore r7 r7\n"} {
			countedBody(t, deep("a", body, limits...), few()...)
			// behind a loop its registers are free again
			countedBody(t, deep("a", body, limits...)+"read r0\nread r1\nset r3 0\n"+deep("b", "", limits...)+"mul r0 r1 r0\n", few()...)
		}
	}
}

// TestLoopsInCalledFunctions: four may go round in one another, where three may lie in one another.
func TestLoopsInCalledFunctions(t *testing.T) {
	one := "func g\n" + loop{i: 6, n: 7, to: 16, by: 5}.text("a0", "store r6 r0\nwrite r7\n") + "back"
	for _, limits := range [][]int64{{}, {7}, {3, 4}, {3, 3, 3}, {0, 0, 0}, {2, 0, 2}} {
		counted(t, "func f\ncall g\n"+deep("a", "call g\nwrite r0\n", limits...)+"call g\nread r6\nback\n"+one, few()...)
	}
	three := "func g\n" + deep("a", "store r4 r6\nwrite r7\n", 2, 3, 4) + "back"
	counted(t, "func f\n"+loop{i: 6, n: 7, from: -far, to: 900 - far, by: 400}.text("a", "call g\ncall g\n")+"back\n"+three, few()...)
	// one in each of four functions
	text := ""
	for i, name := range []string{"k", "h", "g", "f"} {
		call := ""
		if i > 0 {
			call = "call " + []string{"k", "h", "g"}[i-1] + "\n"
		}
		text = "func " + name + "\n" + loop{i: 2*i + 1, n: 2 * i, from: 1, to: 6, by: 2}.text(name, call+"store r"+strconv.Itoa(2*i+1)+" r0\n") + "back\n" + text
	}
	if bound := counted(t, text, few()...); bound.Frames != 4 {
		t.Errorf("%+v of\n%s", bound, text)
	}
}

// TestAWeightOfMaxWeight: it is just reached, in several ways; the weights are reckoned by hand.
func TestAWeightOfMaxWeight(t *testing.T) {
	empty := loop{i: 0, n: 1, from: far - 2498*1000, to: far, by: 1000}
	short := loop{i: 0, n: 1, from: -far, to: -far + 2497, by: 1}
	for _, text := range []string{
		// 4 + 2499 * 4
		"func f\n" + empty.text("a", "") + "back",
		// 4 + 2498 * 4, and 4 plain ones
		"func f\nread r7\n" + short.text("a", "") + "read r6\nwrite r6\nwrite r7\nback",
		// a function that weighs 9998 is called
		"func f\ncall g\nback\nfunc g\n" + short.text("a", "") + "read r6\nwrite r6\nback",
		// 10 * (2 + 998), 10 * (2 + 97) + 8, and 97: it takes as many steps as it weighs, and 1 more
		"func f\n" + strings.Repeat("call g\n", 10) + "back\nfunc g\n" + strings.Repeat("call h\n", 10) + strings.Repeat("read r0\n", 8) + "back\nfunc h\n" + strings.Repeat("inc r1 1\n", 97) + "back",
		// 4 + 833 * (8 + 4)
		"func f\n" + loop{i: 0, n: 1, to: 832, by: 1}.text("a", "read r7\nwrite r7\nset r5 15\nstore r5 r7\ncall g\nwrite r0\nwrite r1\n") + "back\nfunc g\nback",
		// 9 * 5 and 4, 47 * 53 and 4, 4 * 2499 and 4
		"func f\n" + deep("a", "read r7\n", 3, 46, 8) + "back",
		// 4 + 1 * (9992 + 4): what is heavy is never done
		"func f\n" + loop{i: 2, n: 3, from: far, to: -far, by: 1}.text("b", loop{i: 0, n: 1, to: 2496, by: 1}.text("a", "")) + "back",
	} {
		if weight, _ := weigh(text); weight != api.MaxWeight {
			t.Errorf("it weighs %d:\n%s", weight, text)
		}
		counted(t, text, few()...)
	}
}

// linked is a program of n functions, each of which has that body; NEXT is the name of the one behind it. The last one has none.
func linked(n int, body string) string {
	text := ""
	for i := range n - 1 {
		text += "func f" + strconv.Itoa(i) + "\n" + strings.ReplaceAll(body, "NEXT", "f"+strconv.Itoa(i+1)) + "back\n"
	}
	return text + "func f" + strconv.Itoa(n-1) + "\nback\n"
}

// TestChains: all of them up to the longest one.
func TestChains(t *testing.T) {
	loops := loop{i: 0, n: 1, from: -2, to: 2, by: 3}.text("a", "read r7\n")
	for n := 1; n <= api.MaxFrames; n++ {
		for _, body := range []string{"call NEXT\n", "read r7\ncall NEXT\nwrite r7\n", loops + "call NEXT\nread r0\n"} {
			text := linked(n, body)
			if bound := counted(t, text, few()...); bound.Frames != n {
				t.Errorf("%+v, want %d frames of\n%s", bound, n, text)
			}
		}
	}
	rejects(t, linked(api.MaxFrames+1, "call NEXT\n"))
	// each one is called twice as often as the one ahead of it
	for n := 1; n <= 12; n++ {
		counted(t, linked(n, "call NEXT\ncall NEXT\n"), nil)
	}
}

// TestMoreFunctionsThanFrames: it is the chain that may not be longer.
func TestMoreFunctionsThanFrames(t *testing.T) {
	text, rest := "func f\n", ""
	for i := range 60 {
		text += "call g" + strconv.Itoa(i) + "\n"
		rest += "func g" + strconv.Itoa(i) + "\nread r0\nback\n"
	}
	if bound := counted(t, text+"back\n"+rest); bound.Frames != 2 {
		t.Errorf("%+v", bound)
	}
	// no function is called; and two chains meet
	counted(t, "func f\nback\n"+rest)
	counted(t, lines("func f / call k / call g / call h / back / func g / call k / call h / back / func h / call k / back / func k / read r0 / back / func l / call m / back / func m / back"))
}

// TestFunctionsShareNames: those of labels are each function's own, and may be those of functions and of instructions.
func TestFunctionsShareNames(t *testing.T) {
	again := loop{i: 0, n: 1, to: 3, by: 1}
	counted(t, "func set\n"+again.text("set", "write r0\n")+"call less\ncall jump\nback\nfunc less\n"+again.text("set", "read r2\n")+again.text("less", "call jump\n")+"back\nfunc jump\nback")
	counted(t, "; αβγ\n\n\tfunc αβγ ; it begins\n"+strings.ReplaceAll(again.text("λ", "\tread\tr2;read\n;write\n\n"), " 3\n", "  0003 \n")+"back")
}

// TestTheLongestTexts: as many lines and as many bytes as there may be.
func TestTheLongestTexts(t *testing.T) {
	text := "func f\n" + strings.Repeat("inc r1 1\n", api.MaxLines-2) + "back"
	if bound := counted(t, text, few()...); bound != (api.Bound{Steps: api.MaxLines - 1, Frames: 1}) {
		t.Errorf("%+v", bound)
	}
	counted(t, text+strings.Repeat(" ", api.MaxText-len(text)), nil)
	// one loop behind another, and each weighs
	text = "func f\n"
	for i := range 29 {
		text += loop{i: i % 7, n: 7, from: int64(i), to: 60 + int64(i), by: 1}.text("a"+strconv.Itoa(i), "write r7\n")
	}
	counted(t, text+"back", nil)
}

// TestNearlyCountedProgramsThatDoNotEnd: what P6 rules out, where it matters.
func TestNearlyCountedProgramsThatDoNotEnd(t *testing.T) {
	const text = "func f / set r0 FROM / set r1 TO / a: / less r0 r1 b / jump c / b: / BODY / inc r0 BY / jump a / c: / back / func g / GIVES / call h / back / func h / ALSO / back"
	// what is told first goes ahead of the rest
	with := func(word, is string) string {
		return lines(strings.NewReplacer(word, is, "FROM", "0", "TO", "5", "BY", "1", "BODY", "call g", "GIVES", "read r2", "ALSO", "read r3").Replace(text))
	}
	counted(t, with("FROM", "-5"))
	for _, change := range [][2]string{
		{"TO", "4611686018427387904"}, {"FROM", "-4611686018427387904"}, {"BY", "0"}, {"BY", "-1"}, {"BY", "-1000"},
		{"BODY", "set r0 0"}, {"BODY", "inc r0 -1"}, {"BODY", "inc r1 1"}, {"BODY", "read r0"}, {"BODY", "read r1"}, {"BODY", "mov r0 r4"}, {"BODY", "mul r0 r0 r4"}, {"BODY", "sub r0 r4 r0"}, {"BODY", "set r2 9 / load r0 r2"},
		{"BODY", "call f"}, {"BODY", "set r0 0 / set r1 5 / x: / less r0 r1 y / jump z / y: / inc r0 1 / jump x / z: / set r0 0"},
		{"GIVES", "set r0 0"}, {"GIVES", "read r1"}, {"GIVES", "call f"}, {"GIVES", "call g"}, {"ALSO", "set r0 0"}, {"ALSO", "inc r1 1"}, {"ALSO", "read r0"}, {"ALSO", "call f"}, {"ALSO", "call g"}, {"ALSO", "call h"},
	} {
		rejects(t, with(change[0], change[1]))
	}
}
