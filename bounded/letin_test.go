package bounded_test

import (
	"math/rand"
	"strings"
	"testing"

	"bounded/api"
	"bounded/bounded"
)

// withoutReading tells whether everything is known of a program.
func withoutReading(text string) bool { return !strings.Contains(text, "read") }

// known: a program that reads nothing is let in just if it ends.
func known(t *testing.T, text string) {
	t.Helper()
	end := traced(t, text, nil, api.MaxTrace)
	ends := end.End == api.Stopped || end.End == api.Returned
	bound, errno, _ := bounded.Verify(text)
	if ends != (errno == api.OK) || ends && bound != (api.Bound{Steps: end.Steps, Frames: end.Peak}) {
		t.Fatalf("Verify = %+v, %d, and its end is %+v:\n%s", bound, errno, end, text)
	}
}

// TestWhatIsLetInEnds: programs of any kind.
func TestWhatIsLetInEnds(t *testing.T) {
	w := writer{Rand: rand.New(rand.NewSource(4))}
	in, all := 0, 0
	for range 2500 {
		text := w.program()
		if withoutReading(text) {
			all++
			known(t, text)
		}
		if bound, errno, _ := bounded.Verify(text); errno == api.OK {
			in++
			some := [][]int64{nil}
			for range 5 {
				input := make([]int64, 1+w.Intn(6))
				for i := range input {
					input[i] = int64(w.Intn(20)) - 2
				}
				some = append(some, input)
			}
			keeps(t, text, bound, some)
		}
	}
	if in < 400 || all < 200 {
		t.Errorf("%d let in, %d of which all is known: the programs try too little", in, all)
	}
}

// FuzzVerify: as TestWhatIsLetInEnds, with programs that the fuzzer finds.
func FuzzVerify(f *testing.F) {
	for _, s := range seeds {
		f.Add(s, int64(3), int64(-1))
	}
	f.Fuzz(func(t *testing.T, text string, first, second int64) {
		bound, errno, line := bounded.Verify(text)
		e, l := reference(text)
		if e == api.OK && withoutReading(text) {
			known(t, text)
		}
		if e == api.OK {
			if _, counts := weigh(text); counts {
				counted(t, text, nil)
			}
		}
		switch {
		case errno == api.OK && e == api.OK && line == 0:
			keeps(t, text, bound, [][]int64{nil, {first, second}})
		case bound != (api.Bound{}), errno != e && errno != api.ErrRejected, errno == api.ErrRejected && e != api.OK, line != l:
			t.Errorf("Verify(%q) = %+v, %d, %d, and the text's error is %d, %d", text, bound, errno, line, e, l)
		}
	})
}
