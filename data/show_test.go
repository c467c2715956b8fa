package data

import (
	"strings"
	"testing"

	"rondo/api"
)

// nest makes a value of 2*pairs+1 parts, that leans to its heads or its tails.
func nest(pairs int, heads bool) Value {
	var value Value = Number(1)
	for range pairs {
		if heads {
			value = &Pair{Head: value, Tail: Empty{}}
		} else {
			value = &Pair{Head: Empty{}, Tail: value}
		}
	}
	return value
}

func TestShowUpToSoManyParts(t *testing.T) {
	for _, heads := range []bool{true, false} {
		for pairs := range 200 {
			value := nest(pairs, heads)
			text, ok := Show(value)
			if fits := 2*pairs+1 <= api.MaxShow; ok != fits || fits && text != shown(value) || !fits && text != "" {
				t.Errorf("%d pairs, by heads %v: %q, %v", pairs, heads, text, ok)
			}
		}
	}
}

// A value that has itself on both sides, over and over, has 2 to the power of
// 4000 parts: they cannot be counted, only given up.
func TestShowGivesUpOnSharedParts(t *testing.T) {
	var value Value = Empty{}
	for range 4000 {
		value = &Pair{Head: value, Tail: value}
	}
	if text, ok := Show(value); ok || text != "" {
		t.Errorf("shown: %.100q", text)
	}
	if text, ok := Show(nest(1000000, false)); ok || text != "" {
		t.Errorf("shown: %.100q", text)
	}
}

func TestPartsLeft(t *testing.T) {
	for _, c := range []struct {
		value Value
		parts int
	}{
		{Number(1), 1}, {Truth(true), 1}, {Symbol("abc"), 1}, {Empty{}, 1}, {Arity{}, 1}, {list(Number(1)), 3}, {list(Number(1), Number(2)), 5}, {&Pair{Number(1), Number(2)}, 3}, {list(list(), list()), 5}, {&Pair{list(Empty{}), list(Empty{})}, 7},
	} {
		for extra := -c.parts; extra < 3; extra++ {
			left := partsLeft(c.parts+extra, c.value)
			if extra >= 0 && left != extra || extra < 0 && left >= 0 {
				t.Errorf("%s, of %d parts: %d left of %d", shown(c.value), c.parts, left, c.parts+extra)
			}
		}
	}
}

func TestProceduresAreShownAlike(t *testing.T) {
	if text, ok := Show(list(Arity{Least: 1, Most: 2}, Arity{})); !ok || text != "(#<procedure> #<procedure>)" {
		t.Errorf("shown: %q, %v", text, ok)
	}
	if got := string(Arity{}.AppendShown([]byte("x "))); got != "x #<procedure>" {
		t.Errorf("appended: %q", got)
	}
}

func TestTakes(t *testing.T) {
	var taken strings.Builder
	for _, arity := range []Arity{{0, 0}, {1, 1}, {1, 3}, {2, 99}} {
		for count := range 5 {
			if arity.Takes(count) {
				taken.WriteByte(byte('0' + count))
			}
		}
		taken.WriteByte(' ')
	}
	if taken.String() != "0 1 123 234 " {
		t.Errorf("taken: %q", taken.String())
	}
}

func TestOnlyOneValueIsFalse(t *testing.T) {
	for _, value := range []Value{Truth(true), Number(0), Symbol(""), Empty{}, list(Truth(false)), Arity{}} {
		if !IsTrue(value) {
			t.Errorf("%s counts as false", shown(value))
		}
	}
	if IsTrue(Truth(false)) {
		t.Error("#f counts as true")
	}
}
