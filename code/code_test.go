package code

import (
	"reflect"
	"testing"

	"bounded/source"
)

func TestNamesBecomePlaces(t *testing.T) {
	got := Of(source.Read("func f\n\tcall g\na:\n\n\tless r1 r2 b\nb:\n\tjump a\nfunc g\nb:\nc:\n\tset r3 -4\n\tsame r4 r5 c\n\tcall f\n\tback\nfunc h\na:\n\tjump a\n"))
	want := Code{
		{call{3}, 2},
		{less{1, 2, 2}, 5},
		{jump{1}, 7},
		{set{3, -4}, 11},
		{same{4, 5, 3}, 12},
		{call{0}, 13},
		{back{}, 14},
		{jump{7}, 17},
	}
	if !reflect.DeepEqual(got, want) {
		t.Errorf("got  %v\nwant %v", got, want)
	}
}

// TestAWordWithoutAKind: a word that source lets through and that is no instruction here is a mistake that must not pass for another instruction.
func TestAWordWithoutAKind(t *testing.T) {
	defer func() {
		if recover() == nil {
			t.Error("the word was taken for an instruction")
		}
	}()
	places{}.instruction(source.Statement{Sort: source.Instruction, Word: "nop"}, 0)
}
