package rondo_test

import (
	"iter"
	"strings"
	"testing"

	"rondo/api"
	"rondo/rondo"
)

// The model judges a list of tokens by a stack of states and builds no data:
// another way to the answer than the program's, so that both are unlikely to
// be wrong alike.
type state int

const (
	top     state = iota // anything but ) and .
	fresh                // behind a (: no datum yet
	going                // in a list that has a datum
	dotted               // behind a dot: one datum must come
	tailed               // behind the datum that a dot asked for
	quoting              // behind a ': one datum must come
)

type model struct {
	stack   []state
	lists   int
	deepest int
}

func (m *model) last() *state { return &m.stack[len(m.stack)-1] }

func (m *model) drop() state {
	dropped := *m.last()
	m.stack = m.stack[:len(m.stack)-1]
	return dropped
}

func (m *model) push(s state) {
	m.stack = append(m.stack, s)
	m.lists++
	m.deepest = max(m.deepest, m.lists)
}

// ended tells the states around that a datum has come.
func (m *model) ended() {
	for *m.last() == quoting {
		m.drop()
		m.lists--
	}
	switch *m.last() {
	case fresh:
		*m.last() = going
	case dotted:
		*m.last() = tailed
	}
}

func (m *model) take(token string) bool {
	now := *m.last()
	switch token {
	case ")":
		if now != fresh && now != going && now != tailed {
			return false
		}
		m.drop()
		m.lists--
		m.ended()
		return true
	case ".":
		if now != going {
			return false
		}
		*m.last() = dotted
		return true
	}
	if now == tailed {
		return false
	}
	switch token {
	case "(":
		m.push(fresh)
	case "'":
		m.push(quoting)
	default:
		m.ended()
		return strings.Contains(" a -1 0 #t - ", " "+token+" ")
	}
	return true
}

// judge answers for tokens laid at their places in a source of that length.
func judge(tokens []string, places []int, length int) (api.Errno, int) {
	m := &model{stack: []state{top}}
	for i, token := range tokens {
		if !m.take(token) {
			return api.ErrText, places[i]
		}
	}
	if len(m.stack) > 1 || *m.last() != top {
		return api.ErrText, length
	}
	if m.deepest > api.MaxDeep {
		return api.ErrDeep, 0
	}
	return api.OK, 0
}

// join lays tokens one behind the other, with blanks that change.
func join(tokens []string, turn int) (string, []int) {
	blanks := []string{" ", "\n", "\t ", ";(\n"}
	source, places := "", make([]int, len(tokens))
	for i, token := range tokens {
		places[i] = len(source)
		source += token + blanks[(turn+i)%len(blanks)]
	}
	return source, places
}

func holdAgainstModel(t *testing.T, tokens []string, turn int) {
	t.Helper()
	source, places := join(tokens, turn)
	if len(source) > api.MaxSource {
		t.Fatalf("the test made a source of %d bytes", len(source))
	}
	want, at := judge(tokens, places, len(source))
	text, errno, place := rondo.Print(source)
	if errno != want || place != at || errno != api.OK && text != "" {
		t.Errorf("Print(%q) = %q, %d, %d, want error %d at %d", source, text, errno, place, want, at)
	}
	if errno == api.OK {
		holdsStill(t, source, text)
	}
}

// holdsStill asks that what Print wrote is printed as it is.
func holdsStill(t *testing.T, source, text string) {
	t.Helper()
	if len(text) > api.MaxSource {
		return
	}
	if again, errno, _ := rondo.Print(text); again != text || errno != api.OK {
		t.Errorf("Print(%q) = %q, of which Print makes %q, %d", source, text, again, errno)
	}
}

// P1, P3: all rows of up to six tokens.
func TestAllShortRows(t *testing.T) {
	kinds := []string{"a", "(", ")", ".", "'", "-1", "0x", "]"}
	turn := 0
	for tokens := range rows(kinds, 6) {
		holdAgainstModel(t, tokens, turn)
		turn++
	}
}

// rows goes through all rows of words up to a length.
func rows(words []string, longest int) iter.Seq[[]string] {
	return func(yield func([]string) bool) {
		total := 1
		for length := range longest + 1 {
			for number := range total {
				row := make([]string, length)
				for i, rest := 0, number; i < length; i, rest = i+1, rest/len(words) {
					row[i] = words[rest%len(words)]
				}
				if !yield(row) {
					return
				}
			}
			total *= len(words)
		}
	}
}

// drawFrom makes a source of numbers that are the same in each run.
func drawFrom(seed uint32) func(below int) int {
	return func(below int) int {
		seed = seed*1664525 + 1013904223
		return int(seed>>8) % below
	}
}

// P1, P3: long rows that mostly go on well, up to and beyond the greatest depth.
func TestLongRows(t *testing.T) {
	draw := drawFrom(1)
	counts := map[api.Errno]int{}
	for turn := range 20000 {
		tokens := growRow(draw, 1+draw(100))
		holdAgainstModel(t, tokens, turn)
		source, places := join(tokens, turn)
		errno, _ := judge(tokens, places, len(source))
		counts[errno]++
	}
	for _, errno := range []api.Errno{api.OK, api.ErrText, api.ErrDeep} {
		if counts[errno] < 500 {
			t.Errorf("only %d rows came to %d: they test too little", counts[errno], errno)
		}
	}
}

// growRow draws tokens that may stand, closes what is open, and spoils some rows.
func growRow(draw func(int) int, length int) []string {
	kinds := []string{"a", "0", "#t", "-", "(", "(", "(", "'", ".", ")"}
	if draw(2) == 0 {
		kinds = []string{"a", "(", "(", "(", "(", "'", "'", ".", ".", ")"}
	}
	m, limit := &model{stack: []state{top}}, 15+draw(15)
	var tokens []string
	for len(tokens) < length && m.lists < limit {
		token := kinds[draw(len(kinds))]
		if m.take(token) {
			tokens = append(tokens, token)
		}
	}
	for len(m.stack) > 1 {
		token := ")"
		if *m.last() == dotted || *m.last() == quoting {
			token = "a"
		}
		m.take(token)
		tokens = append(tokens, token)
	}
	if len(tokens) > 0 && draw(4) == 0 {
		tokens[draw(len(tokens))] = kinds[draw(len(kinds))]
	}
	return tokens
}

// FuzzPrint is run on its seeds by go test, and on without end by go test -fuzz.
func FuzzPrint(f *testing.F) {
	for _, seed := range []string{"", "a", "'(a . (b c)) ; x", "(a . b c)", "1a", "((((", "#t#f", "\xff", "-9223372036854775808"} {
		f.Add(seed)
	}
	f.Fuzz(func(t *testing.T, source string) {
		text, errno, place := rondo.Print(source)
		switch {
		case errno == api.OK && place == 0:
			holdsStill(t, source, text)
		case errno == api.ErrText && text == "" && 0 <= place && place <= len(source):
		case (errno == api.ErrLong || errno == api.ErrDeep) && text == "" && place == 0:
		default:
			t.Errorf("Print(%q) = %q, %d, %d", source, text, errno, place)
		}
	})
}
