package code

import (
	"math"
	"math/rand"
	"reflect"
	"testing"

	"bounded/api"
	"bounded/known"
	"bounded/machine"
	"bounded/source"
)

func TestNamesBecomePlaces(t *testing.T) {
	got := Of(source.Read("func f\n\tcall g\na:\n\n\tless r1 r2 b\nb:\n\tjump a\nfunc g\nb:\nc:\n\tset r3 -4\n\tsame r4 r5 c\n\tcall f\n\tback\nfunc h\na:\n\tjump a\n"))
	want := Code{
		{call{3}, 2},
		{less{1, 2, 2}, 5},
		{jump{1}, 7},
		{set{3, -4}, 11},
		{same{4, 5, 3}, 12},
		{call{0}, 13},
		{back{}, 14},
		{jump{7}, 17},
	}
	if !reflect.DeepEqual(got, want) {
		t.Errorf("got  %v\nwant %v", got, want)
	}
}

// TestAWordWithoutAKind: a word that source lets through and that is no instruction here is a mistake that must not pass for another instruction.
func TestAWordWithoutAKind(t *testing.T) {
	defer func() {
		if recover() == nil {
			t.Error("the word was taken for an instruction")
		}
	}()
	places{}.instruction(source.Statement{Sort: source.Instruction, Word: "nop"}, 0)
}

// kinds: each kind of instruction, with all registers that it may have.
func kinds() []Instruction {
	all := []Instruction{jump{9}, call{9}}
	for a := range api.MaxRegs {
		all = append(all, set{a, 5}, set{a, math.MinInt64}, inc{a, 1}, inc{a, math.MaxInt64}, inc{a, math.MinInt64}, write{a})
		for b := range api.MaxRegs {
			all = append(all, mov{a, b}, load{a, b}, store{a, b}, less{a, b, 9}, same{a, b, 9})
			for c := range api.MaxRegs {
				all = append(all, add{a, b, c}, sub{a, b, c}, mul{a, b, c})
			}
		}
	}
	return all
}

// both: a machine, and all that can be known of it.
func both(numbers [api.MaxRegs]int64) (*machine.Machine, *known.Known) {
	m, k := machine.New(nil), known.AtFirst()
	for i := range int64(api.MaxCells) {
		*m.Cell(i) = 3 * i
		k.Store(known.Only(i), known.Only(3*i))
	}
	m.Regs = numbers
	for i, number := range numbers {
		k.Regs[i] = known.Only(number)
	}
	return m, k
}

func agree(m *machine.Machine, k *known.Known) bool {
	state := m.State()
	for i, number := range state.Regs {
		if k.Regs[i] != known.Only(number) {
			return false
		}
	}
	for i, number := range state.Cells {
		if k.Load(known.Only(int64(i))) != known.Only(number) {
			return false
		}
	}
	return k.Next() == m.Next() && k.Steps() == state.Steps && k.Frames() == state.Frames
}

// learned answers also whether the program was not rejected.
func learned(i Instruction, k *known.Known) (ways []*known.Known, ok bool) {
	defer func() { ok = recover() == nil }()
	return i.Learn(k), true
}

// TestWhereAllIsKnown: then as much is known behind an instruction, and a fault is known too.
func TestWhereAllIsKnown(t *testing.T) {
	chance := rand.New(rand.NewSource(1))
	some := []int64{0, 0, 1, 2, 15, 15, 16, -1, math.MaxInt64, math.MinInt64}
	for _, i := range kinds() {
		for range 20 {
			var numbers [api.MaxRegs]int64
			for r := range numbers {
				numbers[r] = some[chance.Intn(len(some))]
			}
			m, k := both(numbers)
			i.Do(m)
			ways, ok := learned(i, k)
			if ok != m.Runs() || ok && (len(ways) != 1 || !agree(m, ways[0])) {
				t.Fatalf("%T%v with %v: %v, %t, and the machine %+v", i, i, numbers, ways, ok, m.State())
			}
		}
	}
}

func TestWhatIsReadIsNotKnown(t *testing.T) {
	for r := range api.MaxRegs {
		_, k := both([api.MaxRegs]int64{1, 2, 3, 4, 5, 6, 7, 8})
		ways := read{r}.Learn(k)
		if len(ways) != 1 || ways[0].Next() != 1 || ways[0].Steps() != 1 {
			t.Fatalf("read r%d: %v", r, ways)
		}
		for i, got := range ways[0].Regs {
			if want := known.Only(int64(i + 1)); i == r && got != known.Any() || i != r && got != want {
				t.Errorf("read r%d: register %d is %v", r, i, got)
			}
		}
	}
}

// TestOneRegisterTwice: of a register nothing need be known to know how it is to itself.
func TestOneRegisterTwice(t *testing.T) {
	unknown := func() *known.Known {
		k := known.AtFirst()
		k.Regs[3] = known.Any()
		return k
	}
	if ways := (less{3, 3, 9}).Learn(unknown()); len(ways) != 1 || ways[0].Next() != 1 {
		t.Errorf("less than itself: %v", ways)
	}
	if ways := (same{3, 3, 9}).Learn(unknown()); len(ways) != 1 || ways[0].Next() != 9 {
		t.Errorf("the same as itself: %v", ways)
	}
	if ways := (sub{2, 3, 3}).Learn(unknown()); len(ways) != 1 || ways[0].Regs[2] != known.Only(0) || ways[0].Regs[3] != known.Any() {
		t.Errorf("less itself: %v", ways)
	}
}

func TestWhereThereIsNoWayOn(t *testing.T) {
	called := known.AtFirst().Call(5)[0]
	for ways, want := range map[*known.Known][]*known.Known{known.AtFirst(): nil, called: {called}} {
		if got := (back{}).Learn(ways); !reflect.DeepEqual(got, want) {
			t.Errorf("back: %v, want %v", got, want)
		}
		if got := (stop{}).Learn(ways); len(got) != 0 {
			t.Errorf("stop: %v", got)
		}
	}
}
