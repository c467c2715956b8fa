package syntax

import (
	"strconv"
	"strings"
	"testing"

	"rondo/api"
	"rondo/reader"
)

// outline writes the names of a form, in order: how many scopes out and in
// which slot they stand, or the symbol of those that stand in none.
func outline(list ...Form) string {
	var words []string
	add := func(inner ...Form) { words = append(words, strings.Fields(outline(inner...))...) }
	for _, form := range list {
		switch f := form.(type) {
		case Name:
			word := string(f.Symbol)
			if f.Local {
				word += strconv.Itoa(f.Up) + "/" + strconv.Itoa(f.Slot)
			}
			words = append(words, word)
		case If:
			add(f.Test, f.Then, f.Else)
		case Lambda:
			add(f.Body...)
		case Begin:
			add(f.Body...)
		case Let:
			add(f.Values...)
			add(f.Body...)
		case Set:
			add(f.Name, f.Value)
		case Until:
			add(f.Forms...)
		case Reset:
			add(f.Body...)
		case Shift:
			add(f.Body...)
		case Define:
			add(f.Value)
		case Call:
			add(f.Parts...)
		}
	}
	return strings.Join(words, " ")
}

func TestWhereNamesStand(t *testing.T) {
	for source, want := range map[string]string{
		"x":                                    "x",
		"(lambda (x) x)":                       "x0/0",
		"(lambda (x y) y x z)":                 "y0/1 x0/0 z",
		"(lambda (x) (lambda (y) x y z))":      "x1/0 y0/0 z",
		"(lambda (x y) (lambda (y x) x y))":    "x0/1 y0/0",
		"(lambda (x) (lambda (x) x) x)":        "x0/0 x0/0",
		"(lambda (x) (lambda () x))":           "x1/0",
		"(lambda (x) (lambda (y) y) y x)":      "y0/0 y x0/0",
		"(let ((x x) (y x)) x y)":              "x x x0/0 y0/1",
		"(let ((x 1)) (let ((x x)) x))":        "x0/0 x0/0",
		"(let ((x 1)) (let ((y x)) x y))":      "x0/0 x1/0 y0/0",
		"(let ((x 1)) x) x":                    "x0/0 x",
		"(let () (let ((x 1)) (let () x)))":    "x1/0",
		"(lambda (x) (set! x y) (set! y x))":   "x0/0 y y x0/0",
		"(lambda (x) (if x (and x y) (or x)))": "x0/0 x0/0 y x0/0",
		"(lambda (x) (begin x (reset x)))":     "x0/0 x0/0",
		"(lambda (x) (shift k k x))":           "k0/0 x1/0",
		"(shift k (lambda (x) (k x)))":         "k1/0 x0/0",
		"(define x x)":                         "x",
		"(define (f x) (f x))":                 "f x0/0",
		"(define (f f) f) f":                   "f0/0 f",
		"(lambda (x) 'x)":                      "",
		"((lambda (x) x) x)":                   "x0/0 x",
	} {
		list, _, _ := reader.Read(source)
		forms, errno, place := Parse(list)
		if got := outline(forms...); got != want || errno != api.OK || place != 0 {
			t.Errorf("%s: %q, %d, %d, want %q", source, got, errno, place, want)
		}
	}
}
