package bounded_test

import (
	"math/big"
	"math/rand"
	"regexp"
	"strings"
	"testing"
	"unicode/utf8"

	"bounded/api"
	"bounded/bounded"
)

const (
	nameForm   = `([a-z_\x{3b1}-\x{3c9}][a-z0-9_\x{3b1}-\x{3c9}]{0,11})`
	numberForm = `(-?[0-9]+)`
)

// form: the pattern of a line, from a short one: R a register, K a number, N a name, _ a blank or more.
func form(short string) *regexp.Regexp {
	long := strings.NewReplacer("R", "r[0-7]", "K", numberForm, "N", nameForm, "_", "[ \t]+").Replace(short)
	return regexp.MustCompile("^[ \t]*" + long + "[ \t]*$")
}

var (
	nothing    = form(``)
	begins     = form(`func_N`)
	labels     = form(`N:`)
	withNumber = form(`(?:set|inc)_R_K`)
	plain      = form(`(?:(?:mov|load|store)_R_R|(?:add|sub|mul)_R_R_R|(?:read|write)_R)`)
	jumps      = form(`jump_N`)
	branches   = form(`(?:less|same)_R_R_N`)
	calls      = form(`call_N`)
	leaves     = form(`(?:back|stop)`)
)

func of64Bits(digits string) bool {
	k, ok := new(big.Int).SetString(digits, 10)
	return ok && k.IsInt64()
}

// lineIsRight: whether a line, without what is left out, is one of those that the document lists.
func lineIsRight(line string) bool {
	if m := withNumber.FindStringSubmatch(line); m != nil {
		return of64Bits(m[1])
	}
	for _, f := range []*regexp.Regexp{nothing, begins, labels, plain, jumps, branches, calls, leaves} {
		if f.MatchString(line) {
			return true
		}
	}
	return false
}

// reference answers as Check must, in another way: a pattern for each line, and the text gone over once for each error.
func reference(text string) (api.Errno, int) {
	all := strings.Split(text, "\n")
	if len(text) > api.MaxText || len(all) > api.MaxLines {
		return api.ErrLimit, 0
	}
	for i, line := range all {
		said, _, _ := strings.Cut(line, ";")
		if !utf8.ValidString(line) || !lineIsRight(said) {
			return api.ErrText, i + 1
		}
		all[i] = said
	}
	for _, look := range []func([]string) (api.Errno, int){lookStart, lookTwice, lookMissing, lookEnd} {
		if errno, line := look(all); errno != api.OK {
			return errno, line
		}
	}
	return api.OK, 0
}

func lookStart(all []string) (api.Errno, int) {
	for i, line := range all {
		if begins.MatchString(line) {
			return api.OK, 0
		}
		if !nothing.MatchString(line) {
			return api.ErrStart, i + 1
		}
	}
	return api.ErrStart, 0
}

// section: the lines, counted from 0, of the function in which a line stands, the first of them its beginning.
func section(all []string, at int) (from, behind int) {
	from = at
	for !begins.MatchString(all[from]) {
		from--
	}
	behind = from + 1
	for behind < len(all) && !begins.MatchString(all[behind]) {
		behind++
	}
	return from, behind
}

func stands(form *regexp.Regexp, name string, among []string) bool {
	for _, line := range among {
		if m := form.FindStringSubmatch(line); m != nil && m[1] == name {
			return true
		}
	}
	return false
}

func lookTwice(all []string) (api.Errno, int) {
	for i, line := range all {
		if m := begins.FindStringSubmatch(line); m != nil && stands(begins, m[1], all[:i]) {
			return api.ErrTwice, i + 1
		}
		if m := labels.FindStringSubmatch(line); m != nil {
			if from, _ := section(all, i); stands(labels, m[1], all[from:i]) {
				return api.ErrTwice, i + 1
			}
		}
	}
	return api.OK, 0
}

func lookMissing(all []string) (api.Errno, int) {
	for i, line := range all {
		if m := calls.FindStringSubmatch(line); m != nil && !stands(begins, m[1], all) {
			return api.ErrMissing, i + 1
		}
		for _, f := range []*regexp.Regexp{jumps, branches} {
			if m := f.FindStringSubmatch(line); m != nil {
				if from, behind := section(all, i); !stands(labels, m[1], all[from:behind]) {
					return api.ErrMissing, i + 1
				}
			}
		}
	}
	return api.OK, 0
}

func lookEnd(all []string) (api.Errno, int) {
	for i, line := range all {
		if !begins.MatchString(line) {
			continue
		}
		_, behind := section(all, i)
		last := behind - 1
		for nothing.MatchString(all[last]) {
			last--
		}
		if !jumps.MatchString(all[last]) && !leaves.MatchString(all[last]) {
			return api.ErrEnd, i + 1
		}
	}
	return api.OK, 0
}

var seeds = []string{
	example,
	"func f\n\tcall g\n\tback\nfunc g\na:\n\tless r0 r1 a\n\tsame r2 r3 b\nb:\n\tjump a\n",
	"func λ ; x\n\tset r0 -9223372036854775808\nω:\n\tinc r0 009\n\tload r1 r0\n\tstore r0 r1\n\tcall λ\n\tjump ω",
	"func a\nback\nfunc b\nstop\nfunc c\na:\nb:\njump a",
}

// scraps: what is put in the place of a piece of a text.
var scraps = []string{
	"", " ", "\t", "\n", ";", ":", "-", "0", "1", "\xff", "\xce", "\ufffd", "\r", "\u03b0", "α", "a", "b", "f", "g", "r0", "r7", "r8",
	"func f\n", "func g\n", "func", "a:\n", "b:\n", "back\n", "stop\n", "jump a\n", "jump z\n", "call f\n", "call z\n", "nop\n", "set r0 1\n",
	"9223372036854775807", "9223372036854775808", "abcdefghijkl", "abcdefghijklm",
}

func changed(r *rand.Rand, text string) string {
	for range 1 + r.Intn(3) {
		at := r.Intn(len(text) + 1)
		behind := min(len(text), at+r.Intn(4)*r.Intn(4))
		if r.Intn(2) == 0 { // whole lines are taken out more often than a change of bytes would do it
			at = strings.LastIndexByte(text[:at], '\n') + 1
			if end := strings.IndexByte(text[at:], '\n'); end >= 0 && r.Intn(2) == 0 {
				behind = at + end + 1
			}
		}
		text = text[:at] + scraps[r.Intn(len(scraps))] + text[max(at, behind):]
	}
	return text
}

func TestCheckAgainstReference(t *testing.T) {
	r := rand.New(rand.NewSource(1))
	seen := map[api.Errno]int{}
	for range 20000 {
		text := changed(r, seeds[r.Intn(len(seeds))])
		errno, line := reference(text)
		seen[errno]++
		checks(t, text, errno, line)
	}
	for _, errno := range []api.Errno{api.OK, api.ErrText, api.ErrStart, api.ErrTwice, api.ErrMissing, api.ErrEnd} {
		if seen[errno] < 50 {
			t.Errorf("only %d texts with the answer %d: the changes try too little", seen[errno], errno)
		}
	}
}

func FuzzCheck(f *testing.F) {
	for _, s := range seeds {
		f.Add(s)
	}
	f.Fuzz(func(t *testing.T, text string) {
		errno, line := reference(text)
		if e, l := bounded.Check(text); e != errno || l != line {
			t.Errorf("Check(%q) = %d, %d, want %d, %d", text, e, l, errno, line)
		}
	})
}
