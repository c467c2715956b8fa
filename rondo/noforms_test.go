package rondo_test

import (
	"strings"
	"testing"

	"rondo/api"
	"rondo/rondo"
)

func wantEvalRefusal(t *testing.T, m *rondo.Machine, source string, want api.Errno, at int) {
	t.Helper()
	for _, fuel := range []int{0, api.MaxFuel} {
		got, errno, place := m.Eval(source, fuel)
		if !sameOutcome(got, api.Outcome{}) || errno != want || place != at {
			t.Errorf("Eval(%.200q, %d) = %+v, %d, %d, want error %d at %d", source, fuel, got, errno, place, want, at)
		}
	}
}

// wantNoForm is told the first datum that is no form by an @ ahead of it.
func wantNoForm(t *testing.T, m *rondo.Machine, marked string) {
	t.Helper()
	wantEvalRefusal(t, m, strings.Replace(marked, "@", "", 1), api.ErrForm, strings.Index(marked, "@"))
}

// P1, P5: Eval refuses as Print does, and what is named first counts.
func TestEvalRefusesAsPrint(t *testing.T) {
	m := rondo.New()
	wantEvalRefusal(t, m, strings.Repeat(" ", 501), api.ErrLong, 0)
	wantEvalRefusal(t, m, strings.Repeat("]", 501), api.ErrLong, 0)
	wantEvalRefusal(t, m, nested("(", 251, "", ")"), api.ErrLong, 0)
	wantEvalRefusal(t, m, "(a", api.ErrText, 2)
	wantEvalRefusal(t, m, "(a . b c)", api.ErrText, 7)
	wantEvalRefusal(t, m, "1a", api.ErrText, 0)
	wantEvalRefusal(t, m, "() (if) ]", api.ErrText, 8)
	wantEvalRefusal(t, m, "() "+nested("(", 21, "", ")")+")", api.ErrText, 45)
	wantEvalRefusal(t, m, "() "+nested("(", 21, "", ")"), api.ErrDeep, 0)
	wantEvalRefusal(t, m, "'"+nested("(", 20, "", ")"), api.ErrDeep, 0)
	wantEvalRefusal(t, m, strings.Repeat("'", 21)+"a", api.ErrDeep, 0)
	wantEvalRefusal(t, m, nested("(", 20, "", ")"), api.ErrForm, 19)
	wantValue(t, m, nested("(begin ", 20, "1", ")"), "1", 21)
	wantValue(t, m, "'"+nested("(", 19, "", ")"), nested("(", 19, "", ")"), 1)
	wantValue(t, m, strings.Repeat(" ", 499)+"1", "1", 1)
}

// P5: each keyword alone, and lists that begin with one and are none of its forms.
func TestNoForms(t *testing.T) {
	m := rondo.New()
	for _, source := range []string{
		"()", "(1 . 2)", "(f . 1)", "(f 1 . 2)", "(f () . 2)", "((if) . 2)",
		"quote", "if", "lambda", "begin", "let", "set!", "and", "or", "reset", "shift", "define",
		"(quote)", "(quote a b)", "(quote . a)", "(quote a . b)", "(quote . 'a)",
		"(if)", "(if 1)", "(if 1 2 3 4)", "(if () 2 3 4)", "(if . 1)", "(if 1 . 2)", "(if 1 2 . 3)", "(if 1 2 3 . 4)",
		"(lambda)", "(lambda ())", "(lambda (x))", "(lambda x 1)", "(lambda x x x)", "(lambda 1 1)", "(lambda (x x) 1)", "(lambda (x y x) 1)",
		"(lambda (1) 1)", "(lambda (#t) 1)", "(lambda (()) 1)", "(lambda ((x)) 1)", "(lambda ('x) 1)", "(lambda 'x 1)", "(lambda (if) 1)",
		"(lambda (x shift) 1)", "(lambda (define) 1)", "(lambda (x . y) 1)", "(lambda () . 1)", "(lambda () 1 . 2)", "(lambda . 1)", "(lambda (x x) ())",
		"(begin)", "(begin . 1)", "(begin 1 . 2)", "(begin () . 2)",
		"(let)", "(let ())", "(let ((x 1)))", "(let x 1)", "(let x ((y 1)) y)", "(let (x) 1)", "(let (()) 1)", "(let ((x)) 1)", "(let ((x 1 2)) 1)", "(let ((x . 1)) 1)",
		"(let ((x 1 . 2)) 1)", "(let ((x 1) . y) 1)", "(let ((1 1)) 1)", "(let ((if 1)) 1)", "(let (((x) 1)) 1)", "(let (('x 1)) 1)", "(let ('x) 1)", "(let 'x 1)",
		"(let ((x 1) (x 2)) 1)", "(let ((x ()) (x 2)) 1)", "(let ((x ()) (y)) 1)", "(let ((x 1)) . 1)", "(let ((x 1)) 1 . 2)", "(let . 1)",
		"(set!)", "(set! x)", "(set! x 1 2)", "(set! x () 2)", "(set! 1 2)", "(set! #t 2)", "(set! () 2)", "(set! (x) 2)", "(set! 'x 2)", "(set! if ())",
		"(set! x . 1)", "(set! x 1 . 2)", "(set! x . 'y)", "(set! . 'x)",
		"(and . 1)", "(and 1 . 2)", "(or . 1)", "(or () . 2)",
		"(reset)", "(reset . 1)", "(reset 1 . 2)",
		"(shift)", "(shift k)", "(shift 1 2)", "(shift () 2)", "(shift (k) 2)", "(shift if 2)", "(shift reset ())", "(shift 'k 2)", "(shift k . 1)", "(shift k 1 . 2)",
		"(define)", "(define x)", "(define x 1 2)", "(define x () 2)", "(define 1 2)", "(define #f 2)", "(define () 2)", "(define if 2)", "(define define 2)", "(define 'x 2)",
		"(define (f))", "(define (f x))", "(define (f x x) 1)", "(define (f 1) 1)", "(define (f (x)) 1)", "(define (f if) 1)", "(define (f . x) 1)", "(define (f x . y) 1)",
		"(define (1) 2)", "(define (if) 2)", "(define (()) 2)", "(define ((f) x) 2)", "(define ((f x) y) ())", "(define ('f) 2)", "(define (f f f) 1)",
		"(define . 1)", "(define x . 1)", "(define x 1 . 2)", "(define (f) . 1)", "(define (f) 1 . 2)", "(define . 'x)", "(define x . 'y)",
	} {
		wantNoForm(t, m, "@"+source)
		wantNoForm(t, m, "1 ;()\n @"+source+" ()")
		wantNoForm(t, m, "(car '() @"+source+" if)")
	}
}

// P5: the first of several, in each place where a form must stand.
func TestFirstNoForm(t *testing.T) {
	m := rondo.New()
	for _, marked := range []string{
		"(@())", "(@() () ())", "(+ @() ())", "(+ 1 @())", "(+ (+ 1 2) (+ 3 @()) ())", "(+ @(if) ())", "((lambda () @if))", "(1 . (2 @()))", "(@() . ())",
		"(+ . @'a)", "(+ 'a . @'b)", "(+ @() . 'b)", "(+ . (1 . @'b))", "(+ . ;\n @'b)",
		"(begin . @'a)", "(and . @'a)", "(or 1 . @'a)", "(if . @'a)", "(if 1 . @'a)", "(reset . @'a)", "(lambda () . @'a)", "(let () . @'a)", "(shift k . @'a)", "(define (f) . @'a)",
		"(if @() () ())", "(if 1 @() ())", "(if 1 2 @())", "(if 'a '() @())", "(if 1 @())", "(if @(define x 1) 1)",
		"(lambda () @())", "(lambda (x) 1 @() ())", "(lambda (x y) (x @()) ())", "(lambda () @(define x 1))",
		"(begin @())", "(begin 1 @() ())", "(begin @(define x 1))", "(begin 1 @(define (f) 1))", "(begin @(define))",
		"(let ((x @())) ())", "(let ((x 1) (y @())) ())", "(let ((x 1)) @() ())", "(let () 1 @())", "(let ((x @(define y 1))) x)", "(let () @(define y 1) y)", "(let () @let)",
		"(set! x @())", "(set! x @(define y 1))", "(set! x @set!)",
		"(and @())", "(and 1 @() ())", "(or @or)", "(or 1 #f @())", "(or @(define x 1))",
		"(reset @())", "(reset 1 @() ())", "(reset @(define x 1))", "(shift k @())", "(shift k k @() ())", "(shift k @(define x 1))",
		"(define x @())", "(define x @(define y 1))", "(define (f) @())", "(define (f x) x @() ())", "(define (f) @(define x 1))", "(define x (lambda () @(define y 1) ()))",
		"1 2 @()", "(quote ()) @() ()", "'() @if", "(define x 1) @(define x)", "(define z 1) (display z) @()", "(f '(if) ''() @(quote))", "; ()\n\t@()", "'define @define",
		"(let ((x '())) (if x (begin (and 1 (or (lambda (y) (set! y @(quote)))))) ()))",
	} {
		wantNoForm(t, m, marked)
	}
}

// P5: data that look as though they had a fault, and are forms.
func TestUnlikelyForms(t *testing.T) {
	wantValues(t, []comesTo{
		{"(+ . (1 2))", "3", 4}, {"(+ . (1 . (2 . ())))", "3", 4}, {"(+ . ())", "0", 2}, {"(quote . (a))", "a", 1}, {"(quote . ('a))", "(quote a)", 1}, {"(if . (1 2 . (3)))", "2", 3},
		{"'(if)", "(if)", 1}, {"'()", "()", 1}, {"'define", "define", 1}, {"'(1 . (define x 1))", "(1 define x 1)", 1}, {"'(a . 'b)", "(a quote b)", 1}, {"'''a", "(quote (quote a))", 1},
		{"((lambda (x . ()) x) 1)", "1", 4}, {"(let ((x . (1)) . ()) x)", "1", 3}, {"(define (f . (x)) x)", "f", 2}, {"(define . (x 1))", "x", 2}, {"(define . ((f) . (1)))", "f", 2},
		{"(define (f f) f) (f 1)", "1", 6}, {"(lambda (k) (shift k (reset k)))", "#<procedure>", 1}, {"(lambda (quotes) ifs)", "#<procedure>", 1}, {"(let ((x 1)) (let ((x 2)) x))", "2", 5},
		{"(if #t 1 (shift k 1))", "1", 3}, {"(lambda () (x))", "#<procedure>", 1}, {"(let ((else 1)) else)", "1", 3},
	})
}

// P1, P5: a source that is refused changes nothing, even where its first forms are good.
func TestRefusedSourcesChangeNothing(t *testing.T) {
	m := rondo.New()
	wantValue(t, m, "(define x 1)", "x", 2)
	for _, bad := range []string{"()", "]", nested("(", 21, "", ")"), strings.Repeat(" ", 460)} {
		got, errno, _ := m.Eval("(define x 2) (define y 3) (set! car 1) (display x) "+bad, api.MaxFuel)
		if errno == api.OK || !sameOutcome(got, api.Outcome{}) {
			t.Errorf("with %.20q: %v, %d", bad, got, errno)
		}
	}
	wantValue(t, m, "x", "1", 1)
	wantWrong(t, m, "y", api.WhyName, 1)
	wantValue(t, m, "car", "#<procedure>", 1)
}
