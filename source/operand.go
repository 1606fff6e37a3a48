package source

import (
	"strconv"
	"strings"

	"bounded/api"
)

// operand is what may stand behind a word.
type operand int

const (
	register operand = iota
	number
	name
)

// operandsOf tells what stands behind an instruction's word; ok is false if no instruction has that word.
func operandsOf(word string) (operands []operand, ok bool) {
	switch word {
	case "set", "inc":
		return []operand{register, number}, true
	case "mov", "load", "store":
		return []operand{register, register}, true
	case "add", "sub", "mul":
		return []operand{register, register, register}, true
	case "read", "write":
		return []operand{register}, true
	case "jump", "call":
		return []operand{name}, true
	case "less", "same":
		return []operand{register, register, name}, true
	case "back", "stop":
		return nil, true
	}
	return nil, false
}

func registerOf(word string) (reg int, ok bool) {
	if len(word) != 2 || word[0] != 'r' || word[1] < '0' || word[1] >= '0'+api.MaxRegs {
		return 0, false
	}
	return int(word[1] - '0'), true
}

// numberOf looks at the digits itself, since strconv would take a `+` too.
func numberOf(word string) (value int64, ok bool) {
	for _, char := range strings.TrimPrefix(word, "-") {
		if !isDigit(char) {
			return 0, false
		}
	}
	value, err := strconv.ParseInt(word, 10, 64)
	if err != nil {
		return 0, false
	}
	return value, true
}

func isName(word string) bool {
	length := 0
	for _, char := range word {
		if !isNameChar(char) || length == 0 && isDigit(char) {
			return false
		}
		length++
	}
	return length >= 1 && length <= api.MaxName
}

func isNameChar(char rune) bool {
	return char >= 'a' && char <= 'z' || isDigit(char) || char == '_' || char >= 'α' && char <= 'ω'
}

func isDigit(char rune) bool {
	return char >= '0' && char <= '9'
}
