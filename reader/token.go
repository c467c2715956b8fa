package reader

import "strings"

type kind int

const (
	end kind = iota
	open
	shut
	dot
	quote
	word
	stray // a byte that may stand nowhere
)

type token struct {
	kind  kind
	place int
	text  string
}

// signs are the bytes of words that are neither letters nor digits.
const signs = "!$%&*/:<=>?^_~+-#"

// nextToken answers the first token at or behind a place. The end of the
// source is one too, so that a text that breaks off has a place to name.
func nextToken(source string, from int) token {
	place := skipBlanks(source, from)
	if place == len(source) {
		return token{kind: end, place: place}
	}
	stop := place + 1
	found := kindOf(source[place])
	if found == word {
		stop = wordEnd(source, place)
	}
	return token{kind: found, place: place, text: source[place:stop]}
}

func kindOf(first byte) kind {
	switch {
	case first == '(':
		return open
	case first == ')':
		return shut
	case first == '.':
		return dot
	case first == '\'':
		return quote
	case isWordByte(first):
		return word
	}
	return stray
}

func skipBlanks(source string, at int) int {
	for at < len(source) {
		switch source[at] {
		case ' ', '\n', '\t':
			at++
		case ';':
			at = lineEnd(source, at)
		default:
			return at
		}
	}
	return at
}

func lineEnd(source string, at int) int {
	for at < len(source) && source[at] != '\n' {
		at++
	}
	return at
}

func wordEnd(source string, at int) int {
	for at < len(source) && isWordByte(source[at]) {
		at++
	}
	return at
}

func isWordByte(b byte) bool {
	return isLetter(b) || isDigit(b) || strings.IndexByte(signs, b) >= 0
}

func isLetter(b byte) bool {
	return 'a' <= b && b <= 'z' || 'A' <= b && b <= 'Z'
}

func isDigit(b byte) bool {
	return '0' <= b && b <= '9'
}
