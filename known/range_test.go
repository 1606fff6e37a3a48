package known

import (
	"math"
	"math/big"
	"testing"
)

// numbers: about nought, about the numbers whose squares are too great, and at both ends.
func numbers() []int64 {
	var all []int64
	for _, middle := range []int64{math.MinInt64 + 2, -1 << 62, -3037000500, 0, 3037000500, 1 << 62, math.MaxInt64 - 2} {
		for d := int64(-2); d <= 2; d++ {
			all = append(all, middle+d)
		}
	}
	return all
}

// narrowRanges: such as can be gone through number by number.
func narrowRanges() []Range {
	var all []Range
	for _, low := range numbers() {
		for high := low; high >= low && high-low < 4; high++ {
			all = append(all, Range{low, high})
			if high == math.MaxInt64 {
				break
			}
		}
	}
	return all
}

// wideRanges: all that begin and end at one of the numbers.
func wideRanges() []Range {
	var all []Range
	for _, low := range numbers() {
		for _, high := range numbers() {
			if low <= high {
				all = append(all, Range{low, high})
			}
		}
	}
	return all
}

func each(r Range, do func(int64)) {
	for d := uint64(0); d <= r.width(); d++ {
		do(r.Low + int64(d))
	}
}

func pairs(left, right Range, do func(a, b int64)) {
	each(left, func(a int64) { each(right, func(b int64) { do(a, b) }) })
}

var operations = map[string]struct {
	known func(a, b Range) Range
	exact func(a, b int64) int64
	big   func(z, a, b *big.Int) *big.Int
}{
	"plus":  {Range.Plus, func(a, b int64) int64 { return a + b }, (*big.Int).Add},
	"minus": {Range.Minus, func(a, b int64) int64 { return a - b }, (*big.Int).Sub},
	"times": {Range.Times, func(a, b int64) int64 { return a * b }, (*big.Int).Mul},
}

// TestResultsOfNarrowRanges: the range reaches from the least result to the greatest one; if some wrap round and others don't, nothing is known.
func TestResultsOfNarrowRanges(t *testing.T) {
	for name, o := range operations {
		for _, left := range narrowRanges() {
			for _, right := range narrowRanges() {
				want := Range{math.MaxInt64, math.MinInt64}
				rounds := map[string]bool{}
				pairs(left, right, func(a, b int64) {
					n := o.exact(a, b)
					want = Range{min(want.Low, n), max(want.High, n)}
					whole := o.big(new(big.Int), big.NewInt(a), big.NewInt(b))
					rounds[new(big.Int).Sub(whole, big.NewInt(n)).String()] = true
				})
				if len(rounds) > 1 || name == "times" && left.width()+right.width() > 0 && !rounds["0"] {
					want = Any()
				}
				if got := o.known(left, right); got != want {
					t.Fatalf("%v %s %v = %v, want %v", left, name, right, got, want)
				}
			}
		}
	}
}

// TestResultsOfWideRanges: no result lies outside.
func TestResultsOfWideRanges(t *testing.T) {
	ranges, samples := wideRanges(), numbers()
	for name, o := range operations {
		for i, left := range ranges {
			for _, right := range ranges[i%7:] {
				got := o.known(left, right)
				for _, a := range []int64{left.Low, left.High, samples[i%len(samples)]} {
					for _, b := range []int64{right.Low, right.High, 0, -1} {
						if a < left.Low || a > left.High || b < right.Low || b > right.High {
							continue
						}
						if n := o.exact(a, b); n < got.Low || n > got.High {
							t.Fatalf("%v %s %v = %v, but %d and %d give %d", left, name, right, got, a, b, n)
						}
					}
				}
			}
		}
	}
}

func TestResultsThatFillTheNumbers(t *testing.T) {
	if got := (Range{0, math.MaxInt64}).Minus(Range{0, math.MaxInt64}); got != (Range{-math.MaxInt64, math.MaxInt64}) {
		t.Errorf("all differences of no less than 0: %v", got)
	}
	if got := (Range{math.MinInt64, 0}).Plus(Range{0, math.MaxInt64}); got != Any() {
		t.Errorf("from the least number to the greatest: %v", got)
	}
	if got := (Range{math.MinInt64, 0}).Plus(Range{0, math.MaxInt64 - 1}); got != (Range{math.MinInt64, math.MaxInt64 - 1}) {
		t.Errorf("from the least number to the greatest but one: %v", got)
	}
	for _, r := range wideRanges() {
		if Any().Plus(r) != Any() || r.Plus(Any()) != Any() || Any().Minus(r) != Any() || r.Minus(Any()) != Any() {
			t.Errorf("%v with any number", r)
		}
		if r.Times(Only(0)) != Only(0) || Only(0).Times(r) != Only(0) || r.Times(Only(1)) != r || Only(1).Times(r) != r {
			t.Errorf("%v times 0 or 1", r)
		}
	}
}

var relations = map[string]struct {
	known Relation
	exact func(a, b int64) bool
}{
	"less":     {Less, func(a, b int64) bool { return a < b }},
	"not less": {NotLess, func(a, b int64) bool { return a >= b }},
	"same":     {Same, func(a, b int64) bool { return a == b }},
	"not same": {NotSame, func(a, b int64) bool { return a != b }},
}

// TestRelationsOfNarrowRanges: each range reaches from the least number that has one to be so to, to the greatest.
func TestRelationsOfNarrowRanges(t *testing.T) {
	for name, r := range relations {
		for _, left := range narrowRanges() {
			for _, right := range narrowRanges() {
				wantLeft, wantRight, can := Range{math.MaxInt64, math.MinInt64}, Range{math.MaxInt64, math.MinInt64}, false
				pairs(left, right, func(a, b int64) {
					if r.exact(a, b) {
						wantLeft, wantRight, can = Range{min(wantLeft.Low, a), max(wantLeft.High, a)}, Range{min(wantRight.Low, b), max(wantRight.High, b)}, true
					}
				})
				gotLeft, gotRight, ok := r.known(left, right)
				if ok != can || ok && (gotLeft != wantLeft || gotRight != wantRight) {
					t.Fatalf("%v %s %v: %v, %v, %t, want %v, %v, %t", left, name, right, gotLeft, gotRight, ok, wantLeft, wantRight, can)
				}
			}
		}
	}
}

// TestRelationsOfWideRanges: no two numbers that are so to each other are left out.
func TestRelationsOfWideRanges(t *testing.T) {
	for name, r := range relations {
		for i, left := range wideRanges() {
			for _, right := range wideRanges()[i%5:] {
				gotLeft, gotRight, ok := r.known(left, right)
				for _, a := range []int64{left.Low, left.High, right.Low, right.High} {
					for _, b := range []int64{right.Low, right.High, left.Low, left.High} {
						if !r.exact(a, b) || !Only(a).Within(left) || !Only(b).Within(right) {
							continue
						}
						if !ok || !Only(a).Within(gotLeft) || !Only(b).Within(gotRight) {
							t.Fatalf("%v %s %v: %v, %v, %t leaves out %d, %d", left, name, right, gotLeft, gotRight, ok, a, b)
						}
					}
				}
			}
		}
	}
}

func TestOrAndWithin(t *testing.T) {
	for _, a := range wideRanges() {
		if !a.Within(a) || !a.Within(Any()) || a.Or(a) != a || a.Or(Any()) != Any() {
			t.Errorf("%v with itself and with any", a)
		}
		for _, b := range wideRanges() {
			if or := a.Or(b); or.Low != min(a.Low, b.Low) || or.High != max(a.High, b.High) || !a.Within(or) || !b.Within(or) {
				t.Fatalf("%v or %v = %v", a, b, or)
			}
			if a.Within(b) != (a.Low >= b.Low && a.High <= b.High) {
				t.Fatalf("%v within %v: %t", a, b, a.Within(b))
			}
		}
	}
}
