package bounded_test

import (
	"strings"
	"testing"

	"bounded/api"
	"bounded/bounded"
)

// lines: a text of lines with " / " between.
func lines(s string) string { return strings.ReplaceAll(s, " / ", "\n") }

// checks holds Check against what it must answer.
func checks(t *testing.T, text string, errno api.Errno, line int) {
	t.Helper()
	if e, l := bounded.Check(text); e != errno || l != line {
		t.Errorf("Check(%.120q) = %d, %d, want %d, %d", text, e, l, errno, line)
	}
}

const example = `func main
	set r0 0
	set r1 5
again:	; how far are we?
	less r0 r1 more
	jump out
more:
	write r0
	inc r0 1
	jump again
out:
	stop
`

func TestCheckTellsPrograms(t *testing.T) {
	for _, text := range []string{
		example,
		"func f / back",
		"func f / stop",
		"func f / a: / jump a",
		"func f / set r0 1 / inc r0 -1 / mov r1 r0 / add r2 r1 r0 / sub r3 r2 r1 / mul r4 r3 r2 / back",
		"func f / load r0 r1 / store r2 r3 / read r4 / write r5 / back",
		"func f / a: / less r0 r1 a / same r6 r7 b / b: / back",
		"func f / call g / back / func g / stop",
		"func f / call f / back",
		"func f / back / func g / call f / back",
		"func f / jump b / a: / jump c / b: / jump a / c: / stop",
		"func f / stop / back / jump a / a: / back",
	} {
		checks(t, lines(text), api.OK, 0)
	}
}

func TestNamesThatAreNotTwice(t *testing.T) {
	for _, text := range []string{
		"func f / a: / back / func g / a: / back",
		"func f / f: / back",
		"func f / g: / back / func g / f: / back",
		"func f / a: / b: / c: / back",
		"func aa / aaa: / a: / back / func a / back",
	} {
		checks(t, lines(text), api.OK, 0)
	}
}

func TestInstructionsWordsAreNames(t *testing.T) {
	for _, w := range strings.Fields("func set mov add sub mul inc load store read write jump less same call back stop r0 r7 r8 k") {
		checks(t, lines("func "+w+" / "+w+": / less r0 r1 "+w+" / same r0 r1 "+w+" / call "+w+" / jump "+w), api.OK, 0)
	}
}

func TestTextLimit(t *testing.T) {
	begin := "func f\nback;"
	checks(t, begin+strings.Repeat("x", api.MaxText-len(begin)), api.OK, 0)
	checks(t, begin+strings.Repeat("x", api.MaxText-len(begin)+1), api.ErrLimit, 0)
	checks(t, begin+strings.Repeat("ω", (api.MaxText-len(begin))/2), api.OK, 0)
	checks(t, begin+strings.Repeat("ω", (api.MaxText-len(begin))/2+1), api.ErrLimit, 0)
	checks(t, begin+strings.Repeat("\xff", api.MaxText-len(begin)), api.ErrText, 2)
	checks(t, begin+strings.Repeat("\xff", api.MaxText-len(begin)+1), api.ErrLimit, 0)
	checks(t, strings.Repeat(" ", api.MaxText), api.ErrStart, 0)
	checks(t, strings.Repeat(" ", api.MaxText+1), api.ErrLimit, 0)
}

func TestLineLimit(t *testing.T) {
	checks(t, "func f\nback"+strings.Repeat("\n", api.MaxLines-2), api.OK, 0)
	checks(t, "func f\nback"+strings.Repeat("\n", api.MaxLines-1), api.ErrLimit, 0)
	checks(t, "func f"+strings.Repeat("\nback", api.MaxLines-1), api.OK, 0)
	checks(t, "func f"+strings.Repeat("\nback", api.MaxLines), api.ErrLimit, 0)
	checks(t, strings.Repeat("\n", api.MaxLines-1), api.ErrStart, 0)
	checks(t, strings.Repeat("\n", api.MaxLines), api.ErrLimit, 0)
	checks(t, "func f"+strings.Repeat("\n", api.MaxLines-1)+"nop", api.ErrText, api.MaxLines)
}

func TestBlanks(t *testing.T) {
	for _, text := range []string{
		" func f / back",
		"\tfunc\tf\t / \t back \t",
		"func  f / \t\tset \t r0\t\t-1 / back",
		"func f / \ta:\t / jump\ta",
		" / \t / func f /  / \t \t / back / ",
	} {
		checks(t, lines(text), api.OK, 0)
	}
	for _, blank := range []string{"\r", "\v", "\f", "\x00", "\u00a0", "\u0085", "\u2003", "\u2028", "\ufeff", "\ufffd", ","} {
		checks(t, "func f\nset r0"+blank+"1\nback", api.ErrText, 2)
		checks(t, "func f\nback"+blank, api.ErrText, 2)
		checks(t, "func f\nback\n"+blank, api.ErrText, 3)
	}
	checks(t, "func f\rback", api.ErrText, 1)
}

func TestWhatIsLeftOut(t *testing.T) {
	for _, text := range []string{
		"func f;g / back;back",
		"; set r8 1 / func f ; nop / ;;; / back ; ; Back",
		"func f / a:;b: / jump a;b",
		"func f / set r0 1;2 / back",
		"func f / back / ; func f / ;a: / ;",
		"func f / back ; \ufffd \x00 \r \U0010ffff \u03c9",
	} {
		checks(t, lines(text), api.OK, 0)
	}
	checks(t, lines("func f / set r0; 1 / back"), api.ErrText, 2)
	checks(t, lines("func f / ba;ck"), api.ErrText, 2)
	checks(t, lines("func; f / back"), api.ErrText, 1)
	checks(t, lines("func f / ;back"), api.ErrEnd, 1)
	checks(t, lines("func f / a;: / back"), api.ErrText, 2)
}

func TestBytesThatAreNoUTF8(t *testing.T) {
	for _, broken := range []string{"\xff", "\x80", "\xce", "\xc0\x80", "\xed\xa0\x80", "\xf4\x90\x80\x80", "\xe2\x82", "\xf0\x9f\x98"} {
		checks(t, "func f\nback ; "+broken, api.ErrText, 2)
		checks(t, "func f\nback\n;"+broken, api.ErrText, 3)
		checks(t, "func f\nback\n"+broken+"\n", api.ErrText, 3)
		checks(t, "func f"+broken+"\nback", api.ErrText, 1)
		checks(t, "func f\na"+broken+":\nback", api.ErrText, 2)
		checks(t, "func f\nback ; x"+broken+"y ; z\nfunc f", api.ErrText, 2)
		checks(t, broken, api.ErrText, 1)
	}
	checks(t, "func f\nback ;\xce\n\xb1", api.ErrText, 2)
	checks(t, "func f\nnop\nback ; \xff", api.ErrText, 2)
	checks(t, "func f\nback ; \xff\nnop", api.ErrText, 2)
}

func TestNumbers(t *testing.T) {
	nought := strings.Repeat("0", 3900)
	for _, k := range []string{
		"0", "-0", "00", "-00", "1", "-1", "007", "-007",
		"9223372036854775807", "-9223372036854775808", "0009223372036854775807", "-0009223372036854775808",
		nought, nought + "9223372036854775807", "-" + nought + "9223372036854775808",
	} {
		checks(t, "func f\nset r0 "+k+"\nback", api.OK, 0)
		checks(t, "func f\ninc r0 "+k+"\nback", api.OK, 0)
	}
	for _, k := range []string{
		"9223372036854775808", "-9223372036854775809", "18446744073709551615", "18446744073709551616", "-18446744073709551616",
		"00009223372036854775808", "100000000000000000000000000", nought + "9223372036854775808",
		"+1", "+0", "-", "--1", "-+1", "1-", "- 1", "1_0", "_1", "0x1", "0b1", "1e3", "1.0", "1,0", "a", "r1", "²", "١", "１", "−1", "1:",
	} {
		checks(t, "func f\nset r0 "+k+"\nback", api.ErrText, 2)
		checks(t, "func f\ninc r0 "+k+"\nback", api.ErrText, 2)
	}
}

func TestRegisters(t *testing.T) {
	for _, r := range []string{"r0", "r1", "r2", "r3", "r4", "r5", "r6", "r7"} {
		checks(t, lines("func f / a: / set "+r+" 1 / mov r0 "+r+" / add r0 r0 "+r+" / less "+r+" "+r+" a / back"), api.OK, 0)
	}
	for _, r := range []string{"r8", "r9", "r", "r00", "r01", "r10", "r-1", "R0", "0", "1", "0r", "s0", "r/", "r:", "r0:", "ra", "r٠", "ρ0", "-r0"} {
		checks(t, lines("func f / a: / set "+r+" 1 / back"), api.ErrText, 3)
		checks(t, lines("func f / a: / mov r0 "+r+" / back"), api.ErrText, 3)
		checks(t, lines("func f / a: / add r0 r0 "+r+" / back"), api.ErrText, 3)
		checks(t, lines("func f / a: / less r0 "+r+" a / back"), api.ErrText, 3)
		checks(t, lines("func f / a: / write "+r+" / back"), api.ErrText, 3)
	}
}

func TestNames(t *testing.T) {
	for _, n := range []string{
		"a", "z", "_", "α", "ω", "ς", "\u03b1", "\u03c9", "a0", "z9", "_0", "ω0_", "az_09αω",
		"abcdefghijkl", "____________", "a00000000009", "αβγδεζηθικλμ", "ωωωωωωωωωωωω",
	} {
		checks(t, lines("func "+n+" / "+n+": / less r0 r0 "+n+" / call "+n+" / jump "+n), api.OK, 0)
	}
	for _, n := range []string{
		"0", "9", "0a", "A", "Z", "aB", "a-b", "a.b", "a/", "a`", "a{", "a@", "[", "^", "\u03b0", "\u03ca", "a\u03b0", "a\u03ca", "Α", "Ω", "ά", "ß", "é", "а", "a٠", "\ufffd", "a\ufffd",
		"abcdefghijklm", "_____________", "αβγδεζηθικλμν", "abcdefghijklmnopqrstuvwxyz", "a:b", ":", "-",
	} {
		checks(t, lines("func "+n+" / back"), api.ErrText, 1)
		checks(t, lines("func f / "+n+": / back"), api.ErrText, 2)
		checks(t, lines("func f / jump "+n), api.ErrText, 2)
		checks(t, lines("func f / same r0 r0 "+n+" / back"), api.ErrText, 2)
		checks(t, lines("func f / call "+n+" / back"), api.ErrText, 2)
	}
}

func TestLabelLines(t *testing.T) {
	for _, line := range []string{":", "a :", "a::", ":a", "a:b", "a: back", "a: b:", "a: a", "a", "1:", "A:", "a: :"} {
		checks(t, "func f\n"+line+"\nback", api.ErrText, 2)
	}
}

func TestUnknownWords(t *testing.T) {
	for _, line := range []string{"nop", "Back", "BACK", "bac", "backs", "sets r0 1", "div r0 r1 r2", "jmp a", "ret", "f", "r0", "1", "-", "Func g", "funcg", "ba ck", "\u03bb", "back,", "func\u00a0g"} {
		checks(t, "func f\na:\n"+line+"\nback", api.ErrText, 3)
	}
}

func TestTooFewAndTooManyOperands(t *testing.T) {
	for _, full := range []string{
		"set r0 1", "mov r0 r1", "add r0 r1 r2", "sub r0 r1 r2", "mul r0 r1 r2", "inc r0 1", "load r0 r1", "store r0 r1",
		"read r0", "write r0", "jump a", "less r0 r1 a", "same r0 r1 a", "call f", "back", "stop",
	} {
		checks(t, lines("func f / a: / "+full+" / back"), api.OK, 0)
		words := strings.Fields(full)
		for n := 1; n < len(words); n++ {
			checks(t, lines("func f / a: / "+strings.Join(words[:n], " ")+" / back"), api.ErrText, 3)
		}
		for _, more := range []string{"r0", "1", "a", "back", ":"} {
			checks(t, lines("func f / a: / "+full+" "+more+" / back"), api.ErrText, 3)
		}
	}
	for _, line := range []string{"func", "func f g", "func f f", "func f:", "func f back", "func f 1"} {
		checks(t, line+"\nback", api.ErrText, 1)
	}
}

func TestOperandsOfAnotherKind(t *testing.T) {
	for _, line := range []string{
		"set 1 r0", "set r0 r1", "set 1 1", "set a 1", "mov r0 1", "mov 1 r0", "add r0 r1 2", "add r0 1 r2", "add 0 r1 r2", "sub r0 r1 a", "mul a r0 r0",
		"inc r0 r1", "inc 1 1", "load r0 1", "load 1 r0", "store 1 r0", "store r0 1", "read 1", "read a", "write 1", "write a",
		"jump 1", "jump -1", "less r0 1 a", "less 1 r0 a", "less r0 r1 1", "same r0 1 a", "same a r0 r1", "call 1", "call -", "jump a:",
	} {
		checks(t, lines("func f / a: / "+line+" / back"), api.ErrText, 3)
	}
}

func TestStart(t *testing.T) {
	checks(t, "", api.ErrStart, 0)
	checks(t, "\n", api.ErrStart, 0)
	checks(t, " \t\n;\n; func f\n", api.ErrStart, 0)
	checks(t, "back", api.ErrStart, 1)
	checks(t, "a:", api.ErrStart, 1)
	checks(t, lines("a: / func f / back"), api.ErrStart, 1)
	checks(t, lines("func: / func f / back"), api.ErrStart, 1)
	checks(t, lines("; x /  / \t / set r0 1 / func f / back"), api.ErrStart, 4)
	checks(t, lines("; x /  / \t / func f / back"), api.OK, 0)
}

func TestTwice(t *testing.T) {
	checks(t, lines("func f / back / func f / back"), api.ErrTwice, 3)
	checks(t, lines("func f / back / func g / back /  / func f / back / func g / back"), api.ErrTwice, 6)
	checks(t, lines("func f / a: / a: / back"), api.ErrTwice, 3)
	checks(t, lines("func f / a: / back / a: / back / a: / back"), api.ErrTwice, 4)
	checks(t, lines("func f / a: / b: / b: / a: / back"), api.ErrTwice, 4)
	checks(t, lines("func f / a: / back / func f / a: / a: / back"), api.ErrTwice, 4)
	checks(t, lines("func f / a: / a: / back / func f / back"), api.ErrTwice, 3)
	checks(t, lines("func f / a: / back / func g / a: / b: / back / func h / b: / a: / b: / back"), api.ErrTwice, 11)
	checks(t, lines("func λ / back / func λ / back"), api.ErrTwice, 3)
}

func TestMissing(t *testing.T) {
	checks(t, lines("func f / jump a"), api.ErrMissing, 2)
	checks(t, lines("func f / less r0 r1 a / back"), api.ErrMissing, 2)
	checks(t, lines("func f / same r0 r1 a / back"), api.ErrMissing, 2)
	checks(t, lines("func f / call g / back"), api.ErrMissing, 2)
	checks(t, lines("func f / jump f"), api.ErrMissing, 2)
	checks(t, lines("func f / a: / call a / back"), api.ErrMissing, 3)
	checks(t, lines("func f / back / func g / a: / back / func h / jump a"), api.ErrMissing, 7)
	checks(t, lines("func f / jump a / func g / a: / back"), api.ErrMissing, 2)
	checks(t, lines("func f / a: / jump a / func g / back /  / call h / jump b"), api.ErrMissing, 7)
	checks(t, lines("func f / a: / jump aa"), api.ErrMissing, 3)
	checks(t, lines("func f / ; a: / jump a"), api.ErrMissing, 3)
}

func TestEnd(t *testing.T) {
	checks(t, "func f", api.ErrEnd, 1)
	checks(t, lines("func f / a:"), api.ErrEnd, 1)
	checks(t, lines("func f / back / a:"), api.ErrEnd, 1)
	checks(t, lines("func f / a: / jump a / b:"), api.ErrEnd, 1)
	checks(t, lines(" / func f / stop /  / a: / ;"), api.ErrEnd, 2)
	checks(t, lines("func f / back /  / func g /  / func h / back"), api.ErrEnd, 4)
	checks(t, lines("func f / back / func g / set r0 1 / func h"), api.ErrEnd, 3)
	checks(t, lines("func f / stop / set r0 1"), api.ErrEnd, 1)
	checks(t, lines("func f / back / jump: / func g / back"), api.ErrEnd, 1)
	for _, last := range []string{"set r0 1", "mov r0 r1", "add r0 r1 r2", "sub r0 r1 r2", "mul r0 r1 r2", "inc r0 1", "load r0 r1", "store r0 r1", "read r0", "write r0", "less r0 r1 a", "same r0 r1 a", "call f"} {
		checks(t, lines("func f / a: / back / "+last), api.ErrEnd, 1)
	}
	for _, last := range []string{"jump a", "back", "stop"} {
		checks(t, lines("func f / a: / set r0 1 / "+last), api.OK, 0)
	}
}
