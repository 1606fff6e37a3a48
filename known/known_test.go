package known

import (
	"reflect"
	"testing"

	"bounded/api"
	"bounded/refusal"
)

// rejected: whether the work ended as a program's that is not let in.
func rejected(work func()) (is bool) {
	defer func() { is = recover() == refusal.Refusal{Errno: api.ErrRejected} }()
	work()
	return false
}

func TestAtFirstAllIsNought(t *testing.T) {
	k := AtFirst()
	if k.Next() != 0 || k.Steps() != 0 || k.Frames() != 1 {
		t.Errorf("at place %d behind %d steps in %d frames", k.Next(), k.Steps(), k.Frames())
	}
	for i := range int64(api.MaxCells) {
		if got := k.Load(Only(i)); got != Only(0) {
			t.Errorf("cell %d is %v", i, got)
		}
	}
	for i, r := range k.Regs {
		if r != Only(0) {
			t.Errorf("register %d is %v", i, r)
		}
	}
}

func TestEachWayOnIsAStep(t *testing.T) {
	k := AtFirst()
	if ways := k.GoOn(); len(ways) != 1 || ways[0].Next() != 1 || ways[0].Steps() != 1 {
		t.Errorf("on: %+v", ways)
	}
	if ways := k.GoTo(7); len(ways) != 1 || ways[0].Next() != 7 || ways[0].Steps() != 2 {
		t.Errorf("to: %+v", ways)
	}
	if ways := k.Call(20); len(ways) != 1 || ways[0].Next() != 20 || ways[0].Steps() != 3 || ways[0].Frames() != 2 {
		t.Errorf("called: %+v", ways)
	}
	if ways := k.Back(); len(ways) != 1 || ways[0].Next() != 8 || ways[0].Steps() != 4 || ways[0].Frames() != 1 {
		t.Errorf("back: %+v", ways)
	}
	if ways := k.Back(); len(ways) != 0 {
		t.Errorf("back out of the outermost frame: %+v", ways)
	}
}

func TestWaysOnBehindAComparison(t *testing.T) {
	begin := func(left, right Range) *Known {
		k := AtFirst()
		k.GoTo(5)
		k.Regs[2], k.Regs[6] = left, right
		return k
	}
	ways := begin(Range{0, 9}, Only(4)).Branch(2, 6, Less, NotLess, 30)
	if len(ways) != 2 || ways[0].Next() != 30 || ways[1].Next() != 6 || ways[0].Regs[2] != (Range{0, 3}) || ways[1].Regs[2] != (Range{4, 9}) {
		t.Fatalf("may hold and may fail: %+v", ways)
	}
	for _, way := range ways {
		if way.Steps() != 2 || way.Regs[6] != Only(4) || way.Regs[1] != Only(0) {
			t.Errorf("%+v", way)
		}
	}
	ways[0].Regs[0], ways[0].cells[3] = Any(), Any()
	if ways[1].Regs[0] != Only(0) || ways[1].cells[3] != Only(0) {
		t.Errorf("the ways on share what is known")
	}
	if ways := begin(Only(4), Range{2, 4}).Branch(2, 6, Less, NotLess, 30); len(ways) != 1 || ways[0].Next() != 6 || ways[0].Regs[2] != Only(4) || ways[0].Regs[6] != (Range{2, 4}) || ways[0].Steps() != 2 {
		t.Errorf("cannot hold: %+v", ways)
	}
	if ways := begin(Range{-3, 4}, Range{5, 7}).Branch(2, 6, Less, NotLess, 30); len(ways) != 1 || ways[0].Next() != 30 || ways[0].Regs[2] != (Range{-3, 4}) || ways[0].Regs[6] != (Range{5, 7}) || ways[0].Steps() != 2 {
		t.Errorf("cannot fail: %+v", ways)
	}
}

// TestFramesOfTwoWaysOn: what the one does with its frames is not to be seen in the other's.
func TestFramesOfTwoWaysOn(t *testing.T) {
	k := AtFirst()
	k.Call(10)
	k.Call(20)
	k.Back()
	k.Regs[0] = Any()
	ways := k.Branch(0, 1, Same, NotSame, 15)
	one, other := ways[0], ways[1]
	one.Call(40)
	other.Call(50)
	if one.Back()[0].Next() != 16 || other.Back()[0].Next() != 13 {
		t.Errorf("back to %d and %d, want 16 and 13", one.Next(), other.Next())
	}
	if one.Back()[0].Next() != 1 || other.Back()[0].Next() != 1 {
		t.Errorf("back to %d and %d, want 1 and 1", one.Next(), other.Next())
	}
}

func TestNoMoreFramesThanThereMayBe(t *testing.T) {
	k := AtFirst()
	for range api.MaxFrames - 1 {
		k.Call(0)
	}
	if k.Frames() != api.MaxFrames {
		t.Errorf("%d frames", k.Frames())
	}
	if !rejected(func() { k.Call(0) }) {
		t.Errorf("one more frame")
	}
}

func TestCellsThatAreKnownByARange(t *testing.T) {
	k := AtFirst()
	k.Store(Only(3), Only(30))
	k.Store(Range{2, 4}, Only(-7))
	for cell, want := range map[int64]Range{1: Only(0), 2: {-7, 0}, 3: {-7, 30}, 4: {-7, 0}, 5: Only(0)} {
		if got := k.Load(Only(cell)); got != want {
			t.Errorf("cell %d is %v, want %v", cell, got, want)
		}
	}
	k.Store(Only(3), Range{8, 9})
	k.Store(Only(15), Only(100))
	for _, c := range []struct{ number, want Range }{
		{Only(3), Range{8, 9}}, {Range{3, 4}, Range{-7, 9}}, {Range{2, 3}, Range{-7, 9}}, {Range{0, 1}, Only(0)},
		{Range{5, 14}, Only(0)}, {Range{5, 15}, Range{0, 100}}, {Only(15), Only(100)}, {Range{0, 15}, Range{-7, 100}},
	} {
		if got := k.Load(c.number); got != c.want {
			t.Errorf("a cell of %v is %v, want %v", c.number, got, c.want)
		}
	}
}

func TestCellsThatMayNotBeThere(t *testing.T) {
	for _, number := range []Range{Only(-1), Only(16), {-1, 0}, {15, 16}, {-1, 16}, Any()} {
		if !rejected(func() { AtFirst().Load(number) }) || !rejected(func() { AtFirst().Store(number, Only(0)) }) {
			t.Errorf("a cell of %v was touched", number)
		}
	}
}

// inOrder: each behind more steps, at a greater place or in greater frames than the one ahead of it.
func inOrder() []*Known {
	return []*Known{
		{steps: 1, next: 9, behind: []int{9, 9}}, {steps: 2, next: 1, behind: []int{7}}, {steps: 2, next: 3}, {steps: 2, next: 3, behind: []int{4}},
		{steps: 2, next: 3, behind: []int{4, 1}}, {steps: 2, next: 3, behind: []int{4, 2}}, {steps: 2, next: 3, behind: []int{5}}, {steps: 2, next: 4}, {steps: 10},
	}
}

func TestTheOrderOfWaiting(t *testing.T) {
	for i, a := range inOrder() {
		for j, b := range inOrder() {
			b.Regs[0], b.cells[0] = Any(), Any()
			if a.Before(b) != (i < j) || a.Meets(b) != (i == j) {
				t.Errorf("%v and %v: before %t, meets %t", a, b, a.Before(b), a.Meets(b))
			}
		}
	}
}

func TestCoversAtOnePlaceInTheSameFrames(t *testing.T) {
	for i, a := range inOrder() {
		for j, b := range inOrder() {
			b.steps += 5
			if a.Covers(b) != (i == j) {
				t.Errorf("%v covers %v: %t", a, b, a.Covers(b))
			}
		}
	}
	for i := range api.MaxRegs + api.MaxCells {
		wide, narrow := AtFirst(), AtFirst()
		if i < api.MaxRegs {
			wide.Regs[i] = Range{-1, 5}
		} else {
			wide.cells[i-api.MaxRegs] = Range{-1, 5}
		}
		if !wide.Covers(narrow) || narrow.Covers(wide) {
			t.Errorf("%d: %t, %t", i, wide.Covers(narrow), narrow.Covers(wide))
		}
	}
}

func TestJoinKeepsWhatIsKnownOfBoth(t *testing.T) {
	one, other, want := AtFirst(), AtFirst(), AtFirst()
	for i := range one.Regs {
		n := int64(i)
		one.Regs[i], other.Regs[i], want.Regs[i] = Only(n), Range{-n, n - 1}, Range{min(n, -n), n}
	}
	for i := range one.cells {
		n := int64(i)
		one.cells[i], other.cells[i], want.cells[i] = Range{n, n + 2}, Only(100), Range{n, 100}
	}
	one.Join(other)
	if !reflect.DeepEqual(one, want) {
		t.Errorf("got  %v\nwant %v", one, want)
	}
}
