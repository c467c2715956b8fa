// Package reader: turns the text of a source into data.
package reader

import (
	"strconv"
	"strings"

	"rondo/api"
	"rondo/data"
)

// reader holds the token that is to be read next. Nothing is read past a
// token that may not stand, so after a failure it is the one to blame.
type reader struct {
	source  string
	token   token
	deepest int
}

// Read answers the data of a source, or why it is refused and at which place.
func Read(source string) ([]Datum, api.Errno, int) {
	if len(source) > api.MaxSource {
		return nil, api.ErrLong, 0
	}
	r := &reader{source: source, token: nextToken(source, 0)}
	list, ok := r.dataAhead(0)
	if !ok || !r.pass(end) {
		return nil, api.ErrText, r.token.place
	}
	// Depth is judged last: a bad token anywhere counts ahead of it.
	if r.deepest > api.MaxDeep {
		return nil, api.ErrDeep, 0
	}
	return list, api.OK, 0
}

// pass goes on to the next token, if this one is of the kind asked for.
func (r *reader) pass(wanted kind) bool {
	if r.token.kind != wanted {
		return false
	}
	r.token = nextToken(r.source, r.token.place+len(r.token.text))
	return true
}

// dataAhead reads data up to a token that begins none; whether that token
// may stand is for the caller to say.
func (r *reader) dataAhead(depth int) ([]Datum, bool) {
	var list []Datum
	for r.token.kind == word || r.token.kind == quote || r.token.kind == open {
		datum, ok := r.datum(depth)
		if !ok {
			return nil, false
		}
		list = append(list, datum)
	}
	return list, true
}

// datum reads one datum that stands in depth open lists.
func (r *reader) datum(depth int) (Datum, bool) {
	switch r.token.kind {
	case word:
		return r.atom()
	case quote:
		return r.quoted(depth + 1)
	case open:
		return r.list(depth + 1)
	}
	return Datum{}, false
}

func (r *reader) atom() (Datum, bool) {
	place := r.token.place
	value, ok := atomOf(r.token.text)
	return Datum{Place: place, End: value}, ok && r.pass(word)
}

func (r *reader) quoted(depth int) (Datum, bool) {
	r.deepest = max(r.deepest, depth)
	place := r.token.place
	r.pass(quote)
	inner, ok := r.datum(depth)
	// The symbol is not written: the mark is where it stands.
	symbol := Datum{Place: place, End: data.Symbol("quote")}
	return Datum{Place: place, Parts: []Datum{symbol, inner}, End: data.Empty{}}, ok
}

func (r *reader) list(depth int) (Datum, bool) {
	r.deepest = max(r.deepest, depth)
	place := r.token.place
	r.pass(open)
	parts, ok := r.dataAhead(depth)
	if !ok {
		return Datum{}, false
	}
	tail := Datum{End: data.Empty{}}
	if len(parts) > 0 && r.pass(dot) {
		tail, ok = r.datum(depth)
	}
	return Datum{Place: place, Parts: append(parts, tail.Parts...), End: tail.End}, ok && r.pass(shut)
}

// atomOf answers what a word is, if it may stand at all.
func atomOf(text string) (data.Value, bool) {
	switch {
	case text == "#t" || text == "#f":
		return data.Truth(text == "#t"), true
	case text[0] == '#':
		return nil, false
	case beginsAsNumber(text):
		n, err := strconv.ParseInt(text, 10, 64)
		return data.Number(n), err == nil
	}
	// A copy, so that what was read keeps no hold on the source.
	return data.Symbol(strings.Clone(text)), true
}

func beginsAsNumber(text string) bool {
	digits := strings.TrimPrefix(text, "-")
	return digits != "" && isDigit(digits[0])
}
