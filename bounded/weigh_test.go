package bounded_test

import (
	"maps"
	"slices"
	"strconv"
	"strings"
	"testing"

	"bounded/api"
)

// body is a list of pieces of a counted program.
type body struct {
	text   string
	weight int       // no more than tooHeavy
	gives  registers // what it, and the functions that it calls, give a value to
	chain  int       // how many functions it calls in one another, at most
}

const (
	far      = 1 << 62           // where a loop may begin and end, below 0 too
	tooHeavy = api.MaxWeight + 1 // stands for all weights above MaxWeight
)

type registers [api.MaxRegs]bool

func (r registers) with(i int) registers { r[i] = true; return r }

func (r registers) and(other registers) registers {
	for i, is := range other {
		r[i] = r[i] || is
	}
	return r
}

func (r registers) meets(other registers) bool {
	for i, is := range other {
		if is && r[i] {
			return true
		}
	}
	return false
}

func (b *body) add(p body) {
	b.text += p.text
	b.weight = min(b.weight+p.weight, tooHeavy)
	b.gives = b.gives.and(p.gives)
	b.chain = max(b.chain, p.chain)
}

// function is a body and then back.
type function struct {
	name string
	body
}

// called is the call of a function.
func (f function) called() body {
	return body{text: "call " + f.name + "\n", weight: min(f.weight+2, tooHeavy), gives: f.gives, chain: f.chain + 1}
}

// loop tells of a loop all but its body: the counter and the limit, and their numbers.
type loop struct {
	i, n         int
	from, to, by int64
}

func name(r int) string { return "r" + strconv.Itoa(r) }

func number(k int64) string { return strconv.FormatInt(k, 10) }

// text is the loop with that body; its labels begin with a label.
func (l loop) text(label, body string) string {
	i, n := name(l.i), name(l.n)
	again, more, out := label, label+"m", label+"e"
	ahead := []string{"set " + i + " " + number(l.from), "set " + n + " " + number(l.to), again + ":", "less " + i + " " + n + " " + more, "jump " + out, more + ":", ""}
	behind := []string{"inc " + i + " " + number(l.by), "jump " + again, out + ":", ""}
	return strings.Join(ahead, "\n") + body + strings.Join(behind, "\n")
}

// times is how often the body is done, or so often that it is too heavy.
func (l loop) times() int {
	t := 0
	for at := l.from; at < l.to && t < tooHeavy; at += l.by {
		t++
	}
	return t
}

// looped makes of a body the loop around it, but for the text.
func (b body) looped(l loop) body {
	b.weight = min(4+(l.times()+1)*(b.weight+4), tooHeavy)
	b.gives = b.gives.with(l.i).with(l.n)
	return b
}

// around is what is around a piece.
type around struct {
	held     registers
	loops    int
	counters []int // such as a touch may take
}

// inside is what is around a piece of the loop's body.
func (a around) inside(l loop) around {
	inner := around{held: a.held.with(l.i).with(l.n), loops: a.loops + 1, counters: a.counters}
	if l.from >= 0 && l.to <= 16 {
		inner.counters = append(slices.Clone(a.counters), l.i)
	}
	return inner
}

// scale reads a function of a program and weighs it, as P6 tells counted programs. The lines are words; a label's are ":" and its name.
type scale struct {
	lines  [][]string
	at     int
	behind map[string]body // the functions that stand behind it in the text
}

// weigh answers what a program weighs, and whether it is a counted one that P6 lets in. It goes from the last function to the first one, so that those that are called have been weighed.
func weigh(text string) (weight int, counts bool) {
	functions := split(text)
	behind := map[string]body{}
	for i := len(functions) - 1; i >= 0; i-- {
		s := &scale{lines: functions[i][1:], behind: behind}
		b, ok := s.pieces(around{})
		if !ok || !s.reads("back", nil) || s.at < len(s.lines) || b.chain >= api.MaxFrames {
			return 0, false
		}
		behind[functions[i][0][1]] = b
		weight = b.weight
	}
	return weight, weight <= api.MaxWeight
}

// split answers the lines of each function.
func split(text string) (functions [][][]string) {
	for line := range strings.SplitSeq(text, "\n") {
		line, _, _ = strings.Cut(line, ";")
		words := strings.Fields(line)
		if len(words) == 0 {
			continue
		}
		if name, is := strings.CutSuffix(words[0], ":"); is {
			words = []string{":", name}
		}
		if words[0] == "func" {
			functions = append(functions, nil)
		}
		last := len(functions) - 1
		functions[last] = append(functions[last], words)
	}
	return functions
}

// reads takes lines of that form, if they are. A word in capitals stands for any word, and for the same one wherever it stands again.
func (s *scale) reads(form string, means map[string]string) bool {
	at, found := s.at, maps.Clone(means)
	for want := range strings.SplitSeq(form, " / ") {
		if at == len(s.lines) || !fits(strings.Fields(want), s.lines[at], found) {
			return false
		}
		at++
	}
	s.at = at
	maps.Copy(means, found)
	return true
}

func fits(form, words []string, means map[string]string) bool {
	if len(form) != len(words) {
		return false
	}
	for i, want := range form {
		if 'A' <= want[0] && want[0] <= 'Z' {
			if means[want] == "" {
				means[want] = words[i]
			}
			want = means[want]
		}
		if want != words[i] {
			return false
		}
	}
	return true
}

// verb is the first word of a line further on.
func (s *scale) verb(on int) string {
	if s.at+on >= len(s.lines) {
		return ""
	}
	return s.lines[s.at+on][0]
}

func (s *scale) pieces(a around) (b body, ok bool) {
	for s.verb(0) != "" && s.verb(0) != "back" && !(s.verb(0) == "inc" && s.verb(1) == "jump") {
		p, ok := s.piece(a)
		if !ok {
			return b, false
		}
		b.add(p)
	}
	return b, true
}

func (s *scale) piece(a around) (body, bool) {
	means := map[string]string{}
	switch {
	case s.verb(0) == "set" && s.verb(1) == "set" && s.verb(2) == ":":
		return s.loop(a)
	case s.reads("set R K / load S R", means):
		return a.gives(2, within(means["K"], 0, 15), means["R"], means["S"])
	case s.reads("set R K / store R S", means):
		return a.gives(2, within(means["K"], 0, 15), means["R"])
	case s.reads("load R I", means):
		return a.gives(1, a.counts(means["I"]), means["R"])
	case s.reads("store I R", means):
		return a.gives(1, a.counts(means["I"]))
	case s.reads("write R", means):
		return a.gives(1, true)
	case s.reads("mov R R", means), s.reads("inc R 0", means):
		// that is no other value
		return body{weight: 1, gives: registers{}.with(reg(means["R"]))}, true
	case s.reads("set R K", means), s.reads("mov R S", means), s.reads("inc R K", means), s.reads("read R", means),
		s.reads("add R S T", means), s.reads("sub R S T", means), s.reads("mul R S T", means):
		return a.gives(1, true, means["R"])
	case s.reads("call F", means):
		f, ok := s.behind[means["F"]]
		p := function{body: f}.called()
		return p, ok && !p.gives.meets(a.held)
	}
	return body{}, false
}

// gives is a piece that gives values to registers: it is none if one of them is held.
func (a around) gives(weight int, ok bool, to ...string) (body, bool) {
	b := body{weight: weight}
	for _, r := range to {
		b.gives = b.gives.with(reg(r))
	}
	return b, ok && !b.gives.meets(a.held)
}

// counts tells whether a register may be that of a touch.
func (a around) counts(r string) bool { return slices.Contains(a.counters, reg(r)) }

func (s *scale) loop(a around) (b body, ok bool) {
	means := map[string]string{}
	if !s.reads("set I FROM / set N TO / : L / less I N M / jump E / : M", means) || !within(means["FROM"], -far, far) || !within(means["TO"], -far, far) {
		return b, false
	}
	l := loop{i: reg(means["I"]), n: reg(means["N"]), from: num(means["FROM"]), to: num(means["TO"])}
	if l.i == l.n || a.held[l.i] || a.held[l.n] || a.loops == 3 {
		return b, false
	}
	b, ok = s.pieces(a.inside(l))
	if !ok || !s.reads("inc I BY / jump L / : E", means) || !within(means["BY"], 1, 1000) {
		return b, false
	}
	l.by = num(means["BY"])
	return b.looped(l), true
}

func reg(word string) int { return int(word[1] - '0') }

func num(word string) int64 {
	k, _ := strconv.ParseInt(word, 10, 64)
	return k
}

func within(word string, low, high int64) bool { return low <= num(word) && num(word) <= high }

// once, twice and never are loops, by how often they are done, into which a body may be put.
const (
	once  = "set r0 0 / set r1 1 / a: / less r0 r1 b / jump c / b: / BODY / inc r0 1000 / jump a / c:"
	twice = "set r2 0 / set r3 16 / d: / less r2 r3 e / jump g / e: / BODY / inc r2 9 / jump d / g:"
	never = "set r4 -3 / set r5 -3 / i: / less r4 r5 j / jump k / j: / BODY / inc r4 1 / jump i / k:"
)

func put(body, loop string) string {
	if body == "" {
		return strings.Replace(loop, "BODY / ", "", 1)
	}
	return strings.Replace(loop, "BODY", body, 1)
}

// TestWeights: reckoned by hand from what P6 says.
func TestWeights(t *testing.T) {
	for _, c := range []struct {
		body   string
		weight int
	}{
		{"write r0", 1},
		{"set r0 1 / mov r0 r1 / add r0 r1 r2 / sub r0 r1 r2 / mul r0 r0 r0 / inc r0 1 / read r0 / write r0", 8},
		{"set r0 0 / load r1 r0", 2},
		{"set r0 0 / load r0 r0 / set r0 15 / store r0 r0", 4},
		{"call g", 5},
		{"call h", 2},
		{"call g / call h / call h / call g", 14},
		{put("", never), 8},
		{put("", once), 12},
		{put("", twice), 16},
		{put("write r7", never), 9},
		{put("write r7", once), 14},
		{put("write r7", twice), 19},
		{put("load r6 r2 / store r2 r2 / set r7 15 / store r7 r2 / set r7 0 / load r6 r7", twice), 34},
		{put("mov r2 r2 / inc r3 0", twice), 22},
		{put("call g / call h", twice), 37},
		{put(put("", once), twice), 52},
		{put(put("", twice), once), 44},
		{put(put("", never), once) + " / " + put("", twice), 44},
		{put(put("", twice)+" / write r7 / call h", once), 50},
		{put(put(put("store r2 r0 / load r7 r0", never), twice), once), 104},
		{put(put(put("store r0 r4", twice), never), once), 66},
	} {
		text := lines("func f / " + c.body + " / back / func g / inc r7 1 / call h / back / func h / back")
		checks(t, text, api.OK, 0)
		if weight, counts := weigh(text); weight != c.weight || !counts {
			t.Errorf("it weighs %d, %t, want %d:\n%s", weight, counts, c.weight, text)
		}
	}
}

// TestWhatIsNoCountedProgram: each of them is near to one.
func TestWhatIsNoCountedProgram(t *testing.T) {
	const again = "set r6 0 / set r7 1 / n: / less r6 r7 o / jump p / o: / BODY / inc r6 1 / jump n / p:"
	for _, body := range []string{
		"set r0 16 / load r1 r0", "set r0 -1 / store r0 r1", "load r1 r0", "store r0 r1", "set r0 1 / write r1 / load r1 r0", "set r0 1 / load r0 r1",
		"call f", "jump a / a:", "less r0 r1 a / a:", "same r0 r1 a / write r0 / a:", "a: / write r0", "stop", "back",
		// held registers
		put("set r0 1", once), put("read r1", once), put("inc r0 1", once), put("mov r0 r2", once), put("add r0 r0 r2", once), put("mul r1 r1 r2", once), put("sub r1 r1 r2", once),
		put("load r1 r0", once), put("load r0 r0", once), put("set r0 1 / load r2 r0", once), put("set r2 1 / load r0 r2", once), put("set r1 1 / store r1 r2", once),
		put("call g", strings.ReplaceAll(once, "r0", "r7")), put("call g", strings.ReplaceAll(once, "r1", "r7")),
		put(put("", once), strings.ReplaceAll(twice, "r2", "r0")), put(put("", once), strings.ReplaceAll(twice, "r2", "r1")), put(put("", once), strings.ReplaceAll(twice, "r3", "r0")),
		// touches by no counter, or by one that begins below 0 or ends above 16
		put("store r1 r0", once), put(put("store r4 r0", never), twice), put("store r2 r0", strings.Replace(twice, "16", "17", 1)),
		// four loops
		put(put(put(put("", again), never), twice), once),
		put("call f", once), put("back", once), put("stop", once),
	} {
		noCounted(t, "func f / "+body+" / back / func g / inc r7 1 / call h / back / func h / back")
	}
	for _, change := range [][2]string{
		{"r1", "r0"}, {"less r0 r1", "less r1 r0"}, {"less", "same"}, {"inc r0", "inc r1"}, {"inc r0", "inc r2"}, {"r1 b", "r1 c"}, {"jump c", "jump b"}, {"jump c", "jump a"}, {"jump a", "jump b"},
		{"jump a / ", ""}, {"jump c / ", ""}, {"set r1 1 / ", ""}, {"a: / ", "a: / write r7 / "}, {"jump a / ", "jump a / write r7 / "},
		{"1000", "1001"}, {"1000", "0"}, {"1000", "-1"}, {"set r0 0", "set r0 -4611686018427387905"}, {"set r0 0", "set r0 4611686018427387905"}, {"set r1 1", "set r1 4611686018427387905"}, {"set r1 1", "set r1 -4611686018427387905"},
		// too heavy
		{"set r1 1", "set r1 4611686018427387904"}, {"set r1 1", "set r1 2499000"},
	} {
		noCounted(t, "func f / "+strings.ReplaceAll(put("", once), change[0], change[1])+" / back")
		noCounted(t, "func f / "+put(strings.ReplaceAll(put("", once), change[0], change[1]), never)+" / back")
	}
	for _, text := range []string{
		"func f / stop", "func f / write r0 / stop", "func f / back / func g / call f / back", "func f / call g / back / func g / call f / back", "func f / back / func g / call g / back", "func f / back / func g / stop",
		chain(api.MaxFrames + 1),
	} {
		noCounted(t, text)
	}
}

func noCounted(t *testing.T, text string) {
	t.Helper()
	if weight, counts := weigh(lines(text)); counts {
		t.Errorf("it weighs %d:\n%s", weight, lines(text))
	}
}
