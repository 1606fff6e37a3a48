package bounded_test

import (
	"strings"
	"testing"

	"bounded/api"
)

// fault: a piece of a program with one error, told at the piece's own line.
type fault struct {
	errno api.Errno
	piece string
	line  int
}

// later: pieces that may stand anywhere behind a function that is right, in the order in which P2 names the errors.
var later = []fault{
	{api.ErrText, "func p\nnop\nback", 2},
	{api.ErrText, "; \xff", 1},
	{api.ErrTwice, "func q\na:\na:\nback", 3},
	{api.ErrTwice, "func first\nback", 1},
	{api.ErrMissing, "func s\njump nowhere", 2},
	{api.ErrMissing, "func t\ncall nobody\nback", 2},
	{api.ErrEnd, "func u", 1},
	{api.ErrEnd, "func v\nback\na:", 1},
}

// before: whether P2 names the error of a ahead of that of b.
func before(a, b fault) bool {
	order := []api.Errno{api.ErrLimit, api.ErrText, api.ErrStart, api.ErrTwice, api.ErrMissing, api.ErrEnd}
	place := map[api.Errno]int{}
	for i, e := range order {
		place[e] = i
	}
	return place[a.errno] < place[b.errno]
}

func TestTheErrorNamedFirstIsTold(t *testing.T) {
	const begin = "func first\nback\n"
	for i, a := range later {
		checks(t, begin+a.piece, a.errno, 2+a.line)
		for j, b := range later {
			if i == j {
				continue
			}
			second := 3 + strings.Count(a.piece, "\n")
			want, line := a.errno, 2+a.line
			if before(b, a) {
				want, line = b.errno, second+b.line
			}
			checks(t, begin+a.piece+"\n"+b.piece, want, line)
		}
	}
}

func TestALineErrorGoesBeforeTheStart(t *testing.T) {
	checks(t, "back\nnop", api.ErrText, 2)
	checks(t, "back\n;\xff", api.ErrText, 2)
	checks(t, ";\xff", api.ErrText, 1)
	checks(t, "func", api.ErrText, 1)
}

func TestTheStartGoesBeforeWhatIsNamedBehindIt(t *testing.T) {
	for _, f := range later {
		if f.errno != api.ErrText {
			checks(t, "\nstop\nfunc first\nback\n"+f.piece, api.ErrStart, 2)
		}
	}
	checks(t, "a:\na:", api.ErrStart, 1)
	checks(t, "jump a", api.ErrStart, 1)
}

func TestTheLimitGoesBeforeAll(t *testing.T) {
	for _, f := range later {
		checks(t, "func first\nback\n"+f.piece+strings.Repeat("\n", api.MaxLines), api.ErrLimit, 0)
		checks(t, "func first\nback\n"+f.piece+"\n;"+strings.Repeat(" ", api.MaxText), api.ErrLimit, 0)
	}
	checks(t, strings.Repeat("\xff", api.MaxText+1), api.ErrLimit, 0)
}
