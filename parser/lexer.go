package parser

import (
	"iter"
	"strconv"
	"strings"

	"arenanet/api"
)

// Kinds of tokens.
const (
	invalidToken = iota
	endToken     // the end of the source
	plainToken   // a symbol or a reserved word that names no field
	fieldToken   // a reserved word that names a field
	nameToken    // a word that is not reserved
	integerToken // a number
)

// Sizes of tokens: the bytes of the longest name, and the bits of the greatest integer.
const (
	longestName = 8
	integerBits = 31
)

// symbols are the tokens that are neither words nor integers. Those of two bytes come first, so that the longest one is found.
var symbols = [...]string{
	"||", "&&", "<=", ">=", "==", "!=",
	"{", "}", "[", "]", "(", ")", "=", ";", ",", "<", ">", "+", "-", "*", "/", "!",
}

// token is a token of a source.
type token struct {
	kind  int
	text  string
	value int       // of an integer
	at    int       // the offset of its first byte
	code  api.Errno // of an invalid token
}

// tokens yields the tokens of a source. The last one is the end of the source or the first invalid token.
func tokens(source string) iter.Seq[token] {
	return func(yield func(token) bool) {
		reserved := reservedWords()
		at := skip(source, 0)
		for at < len(source) {
			t := scan(source[at:], reserved)
			t.at = at
			if !yield(t) || t.kind == invalidToken {
				return
			}
			at = skip(source, at+len(t.text))
		}
		yield(token{kind: endToken, at: at})
	}
}

// reservedWords returns the reserved words with the kinds of their tokens.
func reservedWords() map[string]int {
	return map[string]int{
		"on": plainToken, "act": plainToken, "tick": plainToken,
		"if": plainToken, "else": plainToken, "while": plainToken, "effect": plainToken, "stop": plainToken,
		"true": plainToken, "false": plainToken, "self": plainToken, "other": plainToken,
		"x": fieldToken, "y": fieldToken, "vx": fieldToken, "vy": fieldToken,
		"a": fieldToken, "b": fieldToken, "hit": fieldToken, "still": fieldToken,
	}
}

// skip returns the offset of the first byte from at on that belongs neither to white space nor to a comment.
func skip(source string, at int) int {
	for at < len(source) {
		switch source[at] {
		case ' ', '\t', '\n':
			at++
		case '#':
			at += span(source[at:], isInLine)
		default:
			return at
		}
	}
	return at
}

// scan returns the token at the beginning of a text that is not empty.
func scan(text string, reserved map[string]int) token {
	switch {
	case isLetter(text[0]):
		return scanWord(text[:span(text, isLetterOrDigit)], reserved)
	case isDigit(text[0]):
		return scanInteger(text[:span(text, isDigit)])
	}
	for _, symbol := range symbols {
		if strings.HasPrefix(text, symbol) {
			return token{kind: plainToken, text: symbol}
		}
	}
	return token{code: api.ErrSyntax}
}

// scanWord returns the token of a word.
func scanWord(word string, reserved map[string]int) token {
	if kind, ok := reserved[word]; ok {
		return token{kind: kind, text: word}
	}
	if len(word) > longestName {
		return token{code: api.ErrLimit}
	}
	return token{kind: nameToken, text: word}
}

// scanInteger returns the token of a sequence of digits.
func scanInteger(digits string) token {
	value, err := strconv.ParseUint(digits, 10, integerBits)
	if err != nil {
		return token{code: api.ErrRange}
	}
	return token{kind: integerToken, text: digits, value: int(value)}
}

// span returns how many bytes at the beginning of a text belong together.
func span(text string, belongs func(byte) bool) int {
	n := 0
	for n < len(text) && belongs(text[n]) {
		n++
	}
	return n
}

func isLetter(c byte) bool        { return 'a' <= c && c <= 'z' }
func isDigit(c byte) bool         { return '0' <= c && c <= '9' }
func isLetterOrDigit(c byte) bool { return isLetter(c) || isDigit(c) }
func isInLine(c byte) bool        { return c != '\n' }
