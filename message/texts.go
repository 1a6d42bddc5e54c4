package message

import "strings"

// Bytes that stand beside letters and digits.
const (
	tokenMarks     = "!#$%&'*+-.^_|~`"
	authorityMarks = "-._~:[]%"
)

// every: whether each rune of a text is right. Bytes from 80 on make runes from 80 on, and no others do, so that it is the same to ask for bytes below 80 as for runes.
func every(text string, right func(r rune) bool) bool {
	for _, r := range text {
		if !right(r) {
			return false
		}
	}
	return true
}

// plainOr: who asks whether a rune is a letter, a digit or one of some marks.
func plainOr(marks string) func(r rune) bool {
	return func(r rune) bool {
		return isSmall(r) || isCapital(r) || isDigit(r) || strings.ContainsRune(marks, r)
	}
}

func isSmall(r rune) bool   { return 'a' <= r && r <= 'z' }
func isCapital(r rune) bool { return 'A' <= r && r <= 'Z' }
func isDigit(r rune) bool   { return '0' <= r && r <= '9' }

// isToken: whether a text is one token byte or more.
func isToken(text string) bool {
	return text != "" && every(text, plainOr(tokenMarks))
}

// isName: whether a name is right.
func isName(name string) bool {
	return isToken(name) && every(name, func(r rune) bool { return !isCapital(r) })
}

// isValue: whether a value is right.
func isValue(value string) bool {
	inside := func(r rune) bool { return r == '\t' || r >= ' ' && r != 0x7f }
	return every(value, inside) && strings.Trim(value, " \t") == value
}

// isDigits: whether a text is one digit or more.
func isDigits(text string) bool {
	return text != "" && every(text, isDigit)
}

// isPath: whether a path has right bytes alone.
func isPath(path string) bool {
	return every(path, func(r rune) bool { return '!' <= r && r <= '~' && r != '#' })
}

// isAuthority: whether an authority is not empty and has right bytes alone.
func isAuthority(authority string) bool {
	return authority != "" && every(authority, plainOr(authorityMarks))
}
