package lex

import "strings"

// The classes of bytes, by what begins with them.
const (
	nothing = iota
	blank
	hash
	letter
	digit
	sign
	underscore // begins nothing, but words go on with it
)

const signs = "{}(),;.=+-*<&:"

func classOf(b byte) int {
	switch {
	case b == 9 || b == 10 || b == 13 || b == 32:
		return blank
	case b == '#':
		return hash
	case 'a' <= b && b <= 'z' || 'A' <= b && b <= 'Z':
		return letter
	case '0' <= b && b <= '9':
		return digit
	case b == '_':
		return underscore
	case strings.IndexByte(signs, b) >= 0:
		return sign
	}
	return nothing
}

// goesOn tells whether a word that is under way goes on at that place.
func goesOn(s string, at int) bool {
	if at >= len(s) {
		return false
	}
	c := classOf(s[at])
	return c == letter || c == digit || c == underscore
}

func wordEnd(s string, at int) int {
	for goesOn(s, at) {
		at++
	}
	return at
}

func digitsEnd(s string, at int) int {
	for at < len(s) && classOf(s[at]) == digit {
		at++
	}
	return at
}

// remarkEnd answers the place of the byte 10 behind a remark, which is a blank, or the end.
func remarkEnd(s string, at int) int {
	for at < len(s) && s[at] != 10 {
		at++
	}
	return at
}
