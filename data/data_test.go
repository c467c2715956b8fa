package data

import (
	"math"
	"testing"
)

func shown(v Value) string { return string(v.AppendShown(nil)) }

func list(values ...Value) Value { return List(values, Empty{}) }

func TestShown(t *testing.T) {
	a, b, c := Symbol("a"), Symbol("b"), Symbol("c")
	for want, v := range map[string]Value{
		"0":                    Number(0),
		"-7":                   Number(-7),
		"9223372036854775807":  Number(math.MaxInt64),
		"-9223372036854775808": Number(math.MinInt64),
		"#t":                   Truth(true),
		"#f":                   Truth(false),
		"a->b":                 Symbol("a->b"),
		"()":                   Empty{},
		"(a)":                  list(a),
		"(a b c)":              list(a, b, c),
		"(a . b)":              &Pair{a, b},
		"(a b . c)":            &Pair{a, &Pair{b, c}},
		"((a . b) c)":          list(&Pair{a, b}, c),
		"(() . #f)":            &Pair{Empty{}, Truth(false)},
		"((()))":               list(list(list())),
	} {
		if got := shown(v); got != want {
			t.Errorf("shown: %q, want %q", got, want)
		}
	}
}

func TestShownGoesBehindTheText(t *testing.T) {
	text := []byte("x ")
	for _, v := range []Value{Number(1), Truth(true), Truth(false), Symbol("s"), Empty{}, list(Number(2))} {
		text = v.AppendShown(text)
	}
	if string(text) != "x 1#t#fs()(2)" {
		t.Errorf("appended: %q", text)
	}
}

func TestListEndsAsAsked(t *testing.T) {
	if got := List(nil, Number(1)); got != Number(1) {
		t.Errorf("List of none: %v", got)
	}
	if got := shown(List([]Value{Number(1), Number(2)}, Number(3))); got != "(1 2 . 3)" {
		t.Errorf("List with an end: %q", got)
	}
}
