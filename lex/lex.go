// Package lex is layer 1: what a source is made of (see shared/doc/01-lex.md).
package lex

import (
	"protean/api"
	"strings"
)

const maxDigits = 9

// Lex answers the tokens of s, or its first fault.
func Lex(s string) ([]api.Token, api.Fault) {
	if len(s) > api.MaxText {
		return nil, api.Fault{Code: api.ErrLexLong}
	}
	var l []api.Token
	at := 0
next:
	for at < len(s) {
		var kind, end int
		switch classOf(s[at]) {
		case blank:
			at++
			continue next
		case hash:
			at = remarkEnd(s, at)
			continue next
		case letter:
			kind, end = api.TokWord, wordEnd(s, at)
		case sign:
			kind, end = api.TokSign, at+1
		case digit:
			kind, end = api.TokNum, digitsEnd(s, at)
			if end-at <= maxDigits && !goesOn(s, end) {
				break
			}
			fallthrough
		default:
			return nil, api.Fault{Code: api.ErrLexByte, At: at}
		}
		// A copy, as an answer shares no memory with an argument.
		l = append(l, api.Token{Kind: kind, Text: strings.Clone(s[at:end]), At: at})
		at = end
	}
	return l, api.Fault{}
}

// Print answers the texts of tokens that may be, parted by one blank; of others nothing.
func Print(l []api.Token) string {
	if !May(l) {
		return ""
	}
	// Not strings.Join, which answers the text of a lone token itself, not a copy.
	var b strings.Builder
	for i, t := range l {
		if i > 0 {
			b.WriteByte(' ')
		}
		b.WriteString(t.Text)
	}
	return b.String()
}

// May tells whether Lex could have answered each of the tokens, somewhere.
func May(l []api.Token) bool {
	for _, t := range l {
		if !mayBe(t) {
			return false
		}
	}
	return true
}

// Word tells whether s is just a word.
func Word(s string) bool {
	return len(s) <= api.MaxText && begins(s, letter) && wordEnd(s, 0) == len(s)
}

func mayBe(t api.Token) bool {
	switch t.Kind {
	case api.TokWord:
		return Word(t.Text)
	case api.TokNum:
		return isNumber(t.Text)
	case api.TokSign:
		return len(t.Text) == 1 && begins(t.Text, sign)
	}
	return false
}

func isNumber(s string) bool {
	return s != "" && len(s) <= maxDigits && digitsEnd(s, 0) == len(s)
}

func begins(s string, class int) bool {
	return s != "" && classOf(s[0]) == class
}
