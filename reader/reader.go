// Package reader: turns the text of a source into data.
package reader

import (
	"strconv"
	"strings"

	"rondo/api"
	"rondo/data"
)

// reader holds the token that is to be read next. Nothing is read past a
// token that may not stand, so after a failure it is the one to blame.
type reader struct {
	source  string
	token   token
	deepest int
}

// Read answers the data of a source, or why it is refused and at which place.
func Read(source string) ([]data.Value, api.Errno, int) {
	if len(source) > api.MaxSource {
		return nil, api.ErrLong, 0
	}
	r := &reader{source: source, token: nextToken(source, 0)}
	list, ok := r.dataAhead(0)
	if !ok || !r.pass(end) {
		return nil, api.ErrText, r.token.place
	}
	// Depth is judged last: a bad token anywhere counts ahead of it.
	if r.deepest > api.MaxDeep {
		return nil, api.ErrDeep, 0
	}
	return list, api.OK, 0
}

// pass goes on to the next token, if this one is of the kind asked for.
func (r *reader) pass(wanted kind) bool {
	if r.token.kind != wanted {
		return false
	}
	r.token = nextToken(r.source, r.token.place+len(r.token.text))
	return true
}

// dataAhead reads data up to a token that begins none; whether that token
// may stand is for the caller to say.
func (r *reader) dataAhead(depth int) ([]data.Value, bool) {
	var list []data.Value
	for r.token.kind == word || r.token.kind == quote || r.token.kind == open {
		value, ok := r.datum(depth)
		if !ok {
			return nil, false
		}
		list = append(list, value)
	}
	return list, true
}

// datum reads one datum that stands in depth open lists.
func (r *reader) datum(depth int) (data.Value, bool) {
	switch r.token.kind {
	case word:
		return r.atom()
	case quote:
		return r.quoted(depth + 1)
	case open:
		return r.list(depth + 1)
	}
	return nil, false
}

func (r *reader) atom() (data.Value, bool) {
	value, ok := atomOf(r.token.text)
	return value, ok && r.pass(word)
}

func (r *reader) quoted(depth int) (data.Value, bool) {
	r.deepest = max(r.deepest, depth)
	r.pass(quote)
	value, ok := r.datum(depth)
	return data.List([]data.Value{data.Symbol("quote"), value}, data.Empty{}), ok
}

func (r *reader) list(depth int) (data.Value, bool) {
	r.deepest = max(r.deepest, depth)
	r.pass(open)
	values, ok := r.dataAhead(depth)
	if !ok {
		return nil, false
	}
	var tail data.Value = data.Empty{}
	if len(values) > 0 && r.pass(dot) {
		tail, ok = r.datum(depth)
	}
	return data.List(values, tail), ok && r.pass(shut)
}

// atomOf answers what a word is, if it may stand at all.
func atomOf(text string) (data.Value, bool) {
	switch {
	case text == "#t" || text == "#f":
		return data.Truth(text == "#t"), true
	case text[0] == '#':
		return nil, false
	case beginsAsNumber(text):
		n, err := strconv.ParseInt(text, 10, 64)
		return data.Number(n), err == nil
	}
	// A copy, so that what was read keeps no hold on the source.
	return data.Symbol(strings.Clone(text)), true
}

func beginsAsNumber(text string) bool {
	digits := strings.TrimPrefix(text, "-")
	return digits != "" && isDigit(digits[0])
}
