package bounded_test

import (
	"math/rand"
	"strconv"
	"strings"
	"testing"

	"bounded/api"
	"bounded/bounded"
)

// counter writes counted programs by chance, as P6 tells what they are, and weighs them.
type counter struct {
	*rand.Rand
	functions []function // those that stand behind, the last one of the text first
	labels    int
}

// free is a register that is not held; the second answer is whether there is one.
func (c *counter) free(held registers) (int, bool) {
	first := c.Intn(api.MaxRegs)
	for i := range api.MaxRegs {
		if r := (first + i) % api.MaxRegs; !held[r] {
			return r, true
		}
	}
	return 0, false
}

func (c *counter) any() int { return c.Intn(api.MaxRegs) }

// body writes pieces that weigh no more than room.
func (c *counter) body(a around, room int) body {
	var b body
	for range c.Intn(5) {
		if p := c.piece(a, room-b.weight); p.weight <= room-b.weight {
			b.add(p)
		}
	}
	return b
}

func (c *counter) piece(a around, room int) body {
	switch c.Intn(8) {
	case 0, 1:
		return c.plain(a)
	case 2:
		return c.touchByCounter(a)
	case 3:
		return c.touchByNumber(a)
	case 4:
		return c.call(a)
	}
	return c.loop(a, room)
}

func (c *counter) plain(a around) body {
	to, ok := c.free(a.held)
	if !ok || c.Intn(6) == 0 {
		return c.keepsAll()
	}
	text := name(to)
	switch c.Intn(5) {
	case 0:
		text = "read " + text
	case 1:
		text = []string{"set ", "inc "}[c.Intn(2)] + text + " " + strconv.FormatInt(edges[c.Intn(len(edges))], 10)
	case 2:
		text = "mov " + text + " " + name(c.any())
	default:
		text = []string{"add ", "sub ", "mul "}[c.Intn(3)] + text + " " + name(c.any()) + " " + name(c.any())
	}
	return body{text: text + "\n", weight: 1, gives: registers{}.with(to)}
}

// keepsAll is a plain piece that gives no register another value than it has.
func (c *counter) keepsAll() body {
	r := c.any()
	if c.Intn(2) == 0 {
		return body{text: "write " + name(r) + "\n", weight: 1}
	}
	text := []string{"mov " + name(r) + " " + name(r), "inc " + name(r) + " 0"}[c.Intn(2)]
	return body{text: text + "\n", weight: 1, gives: registers{}.with(r)}
}

func (c *counter) touchByCounter(a around) body {
	if len(a.counters) == 0 {
		return body{}
	}
	i := a.counters[c.Intn(len(a.counters))]
	if to, ok := c.free(a.held); ok && c.Intn(2) == 0 {
		return body{text: "load " + name(to) + " " + name(i) + "\n", weight: 1, gives: registers{}.with(to)}
	}
	return body{text: "store " + name(i) + " " + name(c.any()) + "\n", weight: 1}
}

func (c *counter) touchByNumber(a around) body {
	r, ok := c.free(a.held)
	if !ok {
		return body{}
	}
	set := "set " + name(r) + " " + strconv.Itoa([]int{0, 15, c.Intn(16)}[c.Intn(3)]) + "\n"
	if c.Intn(2) == 0 {
		s, _ := c.free(a.held)
		return body{text: set + "load " + name(s) + " " + name(r) + "\n", weight: 2, gives: registers{}.with(r).with(s)}
	}
	return body{text: set + "store " + name(r) + " " + name(c.any()) + "\n", weight: 2, gives: registers{}.with(r)}
}

func (c *counter) call(a around) body {
	if len(c.functions) == 0 {
		return body{}
	}
	p := c.functions[c.Intn(len(c.functions))].called()
	if p.gives.meets(a.held) || p.chain >= api.MaxFrames {
		return body{}
	}
	return p
}

func (c *counter) label() string {
	c.labels++
	return "l" + strconv.Itoa(c.labels)
}

// numbers of a loop that is gone round t times: where it begins, where it ends, and by how much it counts.
func (c *counter) numbers(t int) (a, b, by int64) {
	const end = 1 << 62
	by = []int64{1, 1, 2, 7, 1000}[c.Intn(5)]
	if t == 0 {
		a = []int64{-end, end, 0, 16, 5}[c.Intn(5)]
		return a, []int64{a, -end}[c.Intn(2)], by
	}
	far := (int64(t)-1)*by + 1 + c.Int63n(by)
	switch c.Intn(4) {
	case 0:
		return -end, far - end, by
	case 1:
		return end - far, end, by
	case 2:
		return -far / 2, far - far/2, by
	}
	return 0, far, by
}

func (c *counter) loop(a around, room int) body {
	i, ok := c.free(a.held)
	n, also := c.free(a.held.with(i))
	if !ok || !also || a.loops == 3 || room < 8 {
		return body{}
	}
	most := (room-4)/4 - 1
	t := min(most, []int{0, 1, 2, c.Intn(20), c.Intn(1 + most)}[c.Intn(5)])
	from, to, by := c.numbers(t)
	l := loop{i: i, n: n, from: from, to: to, by: by}
	b := c.body(a.inside(l), (room-4)/(t+1)-4)
	b.text = l.text(c.label(), b.text)
	return b.looped(l)
}

// program writes one and answers what it weighs. Its text may be too long.
func (c *counter) program() (text string, weight int) {
	c.functions, c.labels = nil, 0
	functions, write := 1+c.Intn(5), c.wide
	if c.Intn(10) == 0 {
		functions, write = 1+c.Intn(30), c.link
	}
	for i := functions; i > 0; i-- {
		f := function{"f" + strconv.Itoa(i), write(i)}
		c.functions = append(c.functions, f)
		text, weight = "func "+f.name+"\n"+f.body.text+"back\n"+text, f.weight
	}
	return text, weight
}

// wide is the body of the function of that number. The first one may weigh all that is allowed; the others leave room for calls of them.
func (c *counter) wide(number int) body {
	room := c.Intn(api.MaxWeight/number + 1)
	if number == 1 {
		room = api.MaxWeight
	}
	b := c.body(around{}, room)
	b.add(c.body(around{}, room-b.weight))
	return b
}

// link is a short body that calls the next function, if the chain does not become too long.
func (c *counter) link(int) body {
	b := c.plain(around{})
	if last := len(c.functions) - 1; last >= 0 {
		if p := c.functions[last].called(); p.chain < api.MaxFrames {
			b.add(p)
		}
	}
	return b
}

// right tells whether a text is a program.
func right(text string) bool {
	errno, _ := bounded.Check(text)
	return errno == api.OK
}

// TestCountedProgramsAreLetIn: such as were written by chance.
func TestCountedProgramsAreLetIn(t *testing.T) {
	c := &counter{Rand: rand.New(rand.NewSource(6))}
	programs, heavy, deep := 0, 0, 0
	for range 1500 {
		text, weight := c.program()
		if !right(text) {
			continue
		}
		programs++
		if weighs, counts := weigh(text); weighs != weight || !counts {
			t.Fatalf("it weighs %d, %t, want %d:\n%s", weighs, counts, weight, text)
		}
		bound := counted(t, text, nil, []int64{1, -5, 1 << 62})
		if weight > api.MaxWeight/2 {
			heavy++
		}
		deep = max(deep, bound.Frames)
	}
	if programs < 1000 || heavy < 100 || deep < api.MaxFrames {
		t.Errorf("%d programs, %d heavy ones, %d frames: they try too little", programs, heavy, deep)
	}
}

// spoiled: the program with one word changed, or one line left out, or put twice.
func (c *counter) spoiled(text string) string {
	all := strings.Split(text, "\n")
	at := c.Intn(len(all))
	words := strings.Fields(all[at])
	if len(words) < 2 || c.Intn(4) == 0 {
		return strings.Join(append(append([]string{}, all[:at+c.Intn(2)]...), all[at+1-c.Intn(2):]...), "\n")
	}
	i := c.Intn(len(words))
	switch {
	case i == 0 && len(words) == 4:
		words[0] = []string{"add", "sub", "mul", "less", "same"}[c.Intn(5)]
	case i == 0:
		words[0] = []string{"set", "inc", "mov", "load", "store", "read", "write", "call", "jump"}[c.Intn(9)]
	case words[i][0] == 'r':
		words[i] = name(c.any())
	case words[i][0] == 'l':
		words[i] = "l" + strconv.Itoa(1+c.Intn(c.labels)) + []string{"", "m", "e"}[c.Intn(3)]
	case words[i][0] == 'f':
		words[i] = "f" + strconv.Itoa(1+c.Intn(len(c.functions)))
	default:
		words[i] = strconv.FormatInt([]int64{-1, 0, 1, 2, 15, 16, 17, edges[c.Intn(len(edges))]}[c.Intn(8)], 10)
	}
	all[at] = strings.Join(words, " ")
	return strings.Join(all, "\n")
}

// TestNearlyCountedPrograms: they are let in or not; if they are, the bound holds. Those that are counted still must be.
func TestNearlyCountedPrograms(t *testing.T) {
	c := &counter{Rand: rand.New(rand.NewSource(7))}
	in, out, still := 0, 0, 0
	for range 2000 {
		text, _ := c.program()
		for range 1 + c.Intn(4) {
			text = c.spoiled(text)
		}
		if !right(text) {
			continue
		}
		if _, counts := weigh(text); counts {
			still++
			counted(t, text, nil)
		}
		bound, errno, line := bounded.Verify(text)
		if errno != api.OK {
			out++
			if errno != api.ErrRejected || line != 0 || bound != (api.Bound{}) {
				t.Fatalf("Verify = %+v, %d, %d:\n%s", bound, errno, line, text)
			}
			continue
		}
		in++
		keeps(t, text, bound, [][]int64{nil, {1, -5, 1 << 62}, {16, 15, 0, -1, 3}})
	}
	if in < 300 || out < 80 || still < 50 {
		t.Errorf("%d let in, %d not, %d counted: the programs try too little", in, out, still)
	}
}
