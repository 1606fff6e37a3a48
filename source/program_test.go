package source

import (
	"math"
	"reflect"
	"testing"
)

func TestReadKeepsWhatTheTextSays(t *testing.T) {
	got := Read("func f ; first\n\tset r1 -007\n\tcall g\nα:\n\tless r7 r2 α\n\tadd r3 r4 r5\n\tback\n\nfunc g\nb:\nc:\n\tjump c")
	want := Program{
		Functions: []Function{
			{Name: "f", Line: 1, Labels: map[string]int{"α": 2}, Body: []Statement{
				{Sort: Instruction, Line: 2, Word: "set", Regs: [3]int{1}, Number: -7},
				{Sort: Instruction, Line: 3, Word: "call", Name: "g"},
				{Sort: Instruction, Line: 5, Word: "less", Regs: [3]int{7, 2}, Name: "α"},
				{Sort: Instruction, Line: 6, Word: "add", Regs: [3]int{3, 4, 5}},
				{Sort: Instruction, Line: 7, Word: "back"},
			}},
			{Name: "g", Line: 9, Labels: map[string]int{"b": 0, "c": 0}, Body: []Statement{
				{Sort: Instruction, Line: 12, Word: "jump", Name: "c"},
			}},
		},
		Places: map[string]int{"f": 0, "g": 1},
	}
	if !reflect.DeepEqual(got, want) {
		t.Errorf("got  %+v\nwant %+v", got, want)
	}
}

func TestNumberOf(t *testing.T) {
	for word, want := range map[string]int64{"0": 0, "-0": 0, "00012": 12, "-3": -3, "9223372036854775807": math.MaxInt64, "-9223372036854775808": math.MinInt64} {
		if got, ok := numberOf(word); !ok || got != want {
			t.Errorf("numberOf(%q) = %d, %t, want %d", word, got, ok, want)
		}
	}
}

func TestWordsOf(t *testing.T) {
	for text, want := range map[string][]string{
		"": nil, " \t": nil, ";a b": nil, "a": {"a"}, "\ta  b\t": {"a", "b"}, "a;b c": {"a"}, "α β;": {"α", "β"}, "a:b \ufffd\r": {"a:b", "\ufffd\r"},
	} {
		if got := wordsOf(text, 1); !reflect.DeepEqual(got, want) {
			t.Errorf("wordsOf(%q) = %q, want %q", text, got, want)
		}
	}
}
