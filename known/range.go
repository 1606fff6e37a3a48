package known

import (
	"math"
	"math/bits"
	"slices"
)

// Range is what is known of a number: it is one of those from Low to High.
type Range struct {
	Low, High int64
}

// Only: the number itself is known.
func Only(number int64) Range { return Range{number, number} }

// Any: nothing is known.
func Any() Range { return Range{math.MinInt64, math.MaxInt64} }

// Within tells whether no number of the range lies outside another one.
func (r Range) Within(other Range) bool {
	return other.Low <= r.Low && r.High <= other.High
}

// Or is what is known if a number is of the one range or of the other.
func (r Range) Or(other Range) Range {
	return Range{min(r.Low, other.Low), max(r.High, other.High)}
}

// Plus is what is known of a sum.
func (r Range) Plus(other Range) Range { return from(r.Low+other.Low, r, other) }

// Minus is what is known of a difference.
func (r Range) Minus(other Range) Range { return from(r.Low-other.High, r, other) }

// from is the range that begins at a number and is as wide as two ranges together: sums and differences follow each other without a gap. Where they wrap round, they lie at both ends of the numbers, which no range but Any tells; where all of them wrap, they are a range again.
func from(low int64, one, other Range) Range {
	width, tooWide := bits.Add64(one.width(), other.width(), 0)
	high := low + int64(width)
	if tooWide != 0 || high < low {
		return Any()
	}
	return Range{low, high}
}

func (r Range) width() uint64 { return uint64(r.High) - uint64(r.Low) }

// Times is what is known of a product.
func (r Range) Times(other Range) Range {
	if r.Low == r.High && other.Low == other.High {
		return Only(r.Low * other.Low)
	}
	var products [4]int64
	for i, pair := range [4][2]int64{{r.Low, other.Low}, {r.Low, other.High}, {r.High, other.Low}, {r.High, other.High}} {
		if wraps(pair[0], pair[1]) {
			return Any()
		}
		products[i] = pair[0] * pair[1]
	}
	return Range{slices.Min(products[:]), slices.Max(products[:])}
}

// wraps tells whether a product wraps round. The least number is the only one that a division by -1 gives back.
func wraps(one, other int64) bool {
	if one == -1 {
		return other == math.MinInt64
	}
	return one != 0 && one*other/one != other
}

// Relation narrows two ranges to what they are where the numbers are so to each other; the last answer is whether they can be.
type Relation func(left, right Range) (Range, Range, bool)

// Less: left < right.
func Less(left, right Range) (Range, Range, bool) {
	if left.Low >= right.High {
		return left, right, false
	}
	return Range{left.Low, min(left.High, right.High-1)}, Range{max(left.Low+1, right.Low), right.High}, true
}

// NotLess: left >= right.
func NotLess(left, right Range) (Range, Range, bool) {
	if left.High < right.Low {
		return left, right, false
	}
	return Range{max(left.Low, right.Low), left.High}, Range{right.Low, min(left.High, right.High)}, true
}

// Same: left = right.
func Same(left, right Range) (Range, Range, bool) {
	both := Range{max(left.Low, right.Low), min(left.High, right.High)}
	return both, both, both.Low <= both.High
}

// NotSame: left and right are different.
func NotSame(left, right Range) (Range, Range, bool) {
	if left == right && left.Low == left.High {
		return left, right, false
	}
	return left.without(right), right.without(left), true
}

// without leaves out a number that is known, if it is the first or the last one: a range has no gaps. The range holds another one too.
func (r Range) without(other Range) Range {
	if other.Low != other.High {
		return r
	}
	switch other.Low {
	case r.Low:
		return Range{r.Low + 1, r.High}
	case r.High:
		return Range{r.Low, r.High - 1}
	}
	return r
}
