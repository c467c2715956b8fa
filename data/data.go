// Package data: the values that sources are made of, and how they are shown.
package data

import "strconv"

// Value is anything that can be shown.
type Value interface {
	// AppendShown answers text with the shown value behind it.
	AppendShown(text []byte) []byte
}

// Number is a whole number of 64 bits.
type Number int64

// Truth is #t or #f.
type Truth bool

// Symbol is a name.
type Symbol string

// Empty is the empty list.
type Empty struct{}

// Pair is a part of a list: its first value and the rest.
type Pair struct {
	Head, Tail Value
}

// IsTrue says whether a value counts as true.
func IsTrue(value Value) bool {
	return value != Truth(false)
}

// List makes pairs of the values, with end behind the last of them.
func List(values []Value, end Value) Value {
	list := end
	for i := len(values) - 1; i >= 0; i-- {
		list = &Pair{Head: values[i], Tail: list}
	}
	return list
}

func (n Number) AppendShown(text []byte) []byte {
	return strconv.AppendInt(text, int64(n), 10)
}

func (t Truth) AppendShown(text []byte) []byte {
	if t {
		return append(text, "#t"...)
	}
	return append(text, "#f"...)
}

func (s Symbol) AppendShown(text []byte) []byte {
	return append(text, s...)
}

func (Empty) AppendShown(text []byte) []byte {
	return append(text, "()"...)
}

// AppendShown goes along the tails in a loop, because each of them
// belongs to the same list and opens no bracket of its own.
func (p *Pair) AppendShown(text []byte) []byte {
	text = append(text, '(')
	text = p.Head.AppendShown(text)
	rest := p.Tail
	for next, more := rest.(*Pair); more; next, more = rest.(*Pair) {
		text = append(text, ' ')
		text = next.Head.AppendShown(text)
		rest = next.Tail
	}
	if _, proper := rest.(Empty); !proper {
		text = append(text, " . "...)
		text = rest.AppendShown(text)
	}
	return append(text, ')')
}
