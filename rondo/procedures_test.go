package rondo_test

import (
	"strings"
	"testing"

	"rondo/api"
	"rondo/rondo"
)

const (
	highest = "9223372036854775807"
	lowest  = "-9223372036854775808"
)

// P5: the procedures that are there stand for themselves, each under its name; no others are there.
func TestNewMachine(t *testing.T) {
	for _, name := range strings.Fields("+ * - quotient remainder < > = cons car cdr list pair? null? number? symbol? procedure? boolean? eq? not display") {
		wantValue(t, rondo.New(), name, "#<procedure>", 1)
		wantValue(t, rondo.New(), "(procedure? "+name+")", "#t", 3)
	}
	for _, name := range strings.Fields("/ modulo >= <= cadr length append map apply newline call/cc equal? eqv? zero? null list? else t nil x") {
		wantWrong(t, rondo.New(), name, api.WhyName, 1)
	}
}

// answers holds calls of procedures against what they come to.
func answers(t *testing.T, table map[string]string) {
	t.Helper()
	for source, want := range table {
		got, errno, place := rondo.New().Eval(source, api.MaxFuel)
		if got.Kind != api.Value || got.Text != want || errno != api.OK || place != 0 {
			t.Errorf("%s: %v, %d, %d, want %s", source, got, errno, place, want)
		}
	}
}

// failures holds calls of procedures against why they go wrong.
func failures(t *testing.T, why int, sources ...string) {
	t.Helper()
	for _, source := range sources {
		got, errno, place := rondo.New().Eval(source, api.MaxFuel)
		if got.Kind != api.Wrong || got.Why != why || got.Text != "" || errno != api.OK || place != 0 {
			t.Errorf("%s: %v, %d, %d, want reason %d", source, got, errno, place, why)
		}
	}
}

func TestSumsAndProducts(t *testing.T) {
	answers(t, map[string]string{
		"(+)": "0", "(+ 5)": "5", "(+ 1 2 3)": "6", "(+ 1 -2)": "-1", "(*)": "1", "(* 5)": "5", "(* 2 -3 4)": "-24", "(* 0 5)": "0", "(- 5)": "-5", "(- -5)": "5", "(- 0)": "0", "(- 5 1)": "4", "(- 5 1 1 10)": "-7",
		"(+ " + highest + " -1 1)": highest, "(+ " + lowest + " 1 -1)": lowest, "(+ " + highest + " " + lowest + ")": "-1", "(+ -1 " + highest + " 1)": highest, "(+ " + highest + " 0)": highest, "(+ " + lowest + " 0)": lowest,
		"(- " + highest + ")": "-9223372036854775807", "(- -9223372036854775807)": highest, "(- -1 " + lowest + ")": highest, "(- " + lowest + " " + lowest + ")": "0", "(- -1 " + highest + ")": lowest, "(- " + lowest + " 0)": lowest,
		"(* 4294967296 -2147483648)": lowest, "(* -4294967296 2147483648)": lowest, "(* 1 " + lowest + ")": lowest, "(* " + lowest + " 1)": lowest, "(* -1 " + highest + ")": "-9223372036854775807", "(* 0 " + lowest + " 2)": "0",
		"(* 3037000499 3037000499)": "9223372030926249001", "(* 0 " + highest + " " + highest + ")": "0", "(* " + lowest + ")": lowest, "(* -1 -1)": "1",
	})
	failures(t, api.WhyOver,
		"(+ "+highest+" 1)", "(+ 1 "+highest+")", "(+ "+highest+" 1 -5)", "(+ "+lowest+" -1)", "(+ "+lowest+" -1 1)", "(+ "+lowest+" "+lowest+")", "(+ "+highest+" "+highest+")",
		"(- "+lowest+")", "(- 0 "+lowest+")", "(- "+lowest+" 1)", "(- "+lowest+" 1 -1)", "(- "+highest+" -1)", "(- "+highest+" "+lowest+")", "(- -2 "+highest+")",
		"(* 4294967296 2147483648)", "(* -1 "+lowest+")", "(* "+lowest+" -1)", "(* "+highest+" 2)", "(* "+highest+" 2 0)", "(* "+lowest+" 2)", "(* 2 "+lowest+")", "(* "+lowest+" "+lowest+")", "(* "+highest+" "+highest+")",
		"(* 3037000500 3037000500)", "(* 4294967296 4294967296)", "(* 4294967296 4294967296 0)", "(* -1 -1 "+lowest+" -1)",
	)
	failures(t, api.WhyType, "(+ 1 #t)", "(+ 'a)", "(+ '())", "(+ '(1))", "(+ +)", "(+ "+highest+" 1 #t)", "(* #f)", "(* 0 'a)", "(* "+highest+" 2 'a)", "(- #t)", "(- 'a 1)", "(- 1 'a)", "(- "+lowest+" 1 'a)")
	failures(t, api.WhyCount, "(-)")
}

func TestQuotientsAndRemainders(t *testing.T) {
	answers(t, map[string]string{
		"(quotient 7 2)": "3", "(quotient -7 2)": "-3", "(quotient 7 -2)": "-3", "(quotient -7 -2)": "3", "(quotient 0 5)": "0", "(quotient 1 2)": "0", "(quotient -1 2)": "0",
		"(remainder 7 2)": "1", "(remainder -7 2)": "-1", "(remainder 7 -2)": "1", "(remainder -7 -2)": "-1", "(remainder 0 5)": "0", "(remainder 6 3)": "0", "(remainder -6 3)": "0",
		"(quotient " + lowest + " 1)": lowest, "(quotient " + highest + " -1)": "-9223372036854775807", "(remainder " + highest + " -1)": "0", "(quotient " + lowest + " " + lowest + ")": "1", "(remainder " + lowest + " 2)": "0",
		"(remainder " + lowest + " " + highest + ")": "-1", "(quotient -9223372036854775807 -1)": highest, "(remainder -9223372036854775807 -1)": "0", "(remainder " + highest + " " + lowest + ")": highest,
	})
	failures(t, api.WhyZero, "(quotient 1 0)", "(remainder 0 0)", "(quotient "+lowest+" 0)", "(remainder 1 -0)", "(remainder -5 0)")
	failures(t, api.WhyOver, "(quotient "+lowest+" -1)", "(remainder "+lowest+" -1)")
	failures(t, api.WhyType, "(quotient #f 0)", "(quotient 1 'a)", "(remainder 'a 0)", "(remainder 1 '())", "(quotient '(1) '(0))")
	failures(t, api.WhyCount, "(quotient)", "(quotient 1)", "(quotient 1 0 3)", "(quotient #t)", "(remainder)", "(remainder 1)", "(remainder 1 0 'a)")
}

func TestComparisons(t *testing.T) {
	answers(t, map[string]string{
		"(< 1)": "#t", "(> 1)": "#t", "(= 1)": "#t", "(< 1 2)": "#t", "(< 2 1)": "#f", "(< 1 1)": "#f", "(> 2 1)": "#t", "(> 1 2)": "#f", "(> 1 1)": "#f", "(= 1 1)": "#t", "(= 1 2)": "#f",
		"(< 1 2 3)": "#t", "(< 1 3 2)": "#f", "(< 2 1 3)": "#f", "(< 1 2 2)": "#f", "(> 3 2 1)": "#t", "(> 3 2 2)": "#f", "(> 3 1 2)": "#f", "(= 2 2 2)": "#t", "(= 2 2 3)": "#f", "(= 2 3 2)": "#f", "(= 3 2 2)": "#f",
		"(< " + lowest + " " + highest + ")": "#t", "(> " + lowest + " " + highest + ")": "#f", "(= " + lowest + " " + highest + ")": "#f", "(< -1 0 1)": "#t", "(< 1 2 1 2)": "#f",
	})
	failures(t, api.WhyType, "(< 'a)", "(< 2 1 #t)", "(< #t 1)", "(> '())", "(> 1 2 'a)", "(= 1 'a)", "(= 'a 'a)", "(= 1 2 #f)", "(= #t)")
	failures(t, api.WhyCount, "(<)", "(>)", "(=)")
}

func TestPairsAndLists(t *testing.T) {
	answers(t, map[string]string{
		"(cons 1 2)": "(1 . 2)", "(cons 1 '(2))": "(1 2)", "(cons '(1) '())": "((1))", "(cons 1 (cons 2 3))": "(1 2 . 3)", "(car '(1 2))": "1", "(cdr '(1 2))": "(2)", "(car '(1 . 2))": "1", "(cdr '(1 . 2))": "2", "(cdr '(1))": "()",
		"(car ''a)": "quote", "(cdr ''a)": "(a)", "(list)": "()", "(list 1)": "(1)", "(list 1 'a #t '())": "(1 a #t ())", "(car (cons car cdr))": "#<procedure>", "(cdr (car (list (list 1 2))))": "(2)",
	})
	failures(t, api.WhyType, "(car 1)", "(car '())", "(car 'a)", "(car #f)", "(car car)", "(cdr 1)", "(cdr '())", "(cdr (lambda () 1))")
	failures(t, api.WhyCount, "(cons)", "(cons 1)", "(cons 1 2 3)", "(car)", "(car 1 2)", "(car '(1) 2)", "(cdr)", "(cdr 1 2)")
}

// Each kind of value is asked by each of the questions after kinds.
func TestQuestionsAfterKinds(t *testing.T) {
	kinds := map[string]string{
		"'(1)": "pair?", "'(1 . 2)": "pair?", "(cons 1 2)": "pair?", "'()": "null?", "(list)": "null?", "1": "number?", lowest: "number?", "'a": "symbol?", "'if": "symbol?",
		"car": "procedure?", "(lambda () 1)": "procedure?", "#t": "boolean?", "#f": "boolean?",
	}
	for _, question := range strings.Fields("pair? null? number? symbol? procedure? boolean?") {
		for value, kind := range kinds {
			want := "#f"
			if kind == question {
				want = "#t"
			}
			answers(t, map[string]string{"(" + question + " " + value + ")": want})
		}
		failures(t, api.WhyCount, "("+question+")", "("+question+" 1 2)")
	}
}

func TestEqAndNot(t *testing.T) {
	answers(t, map[string]string{
		"(eq? 1 1)": "#t", "(eq? 1 2)": "#f", "(eq? -0 0)": "#t", "(eq? 'a 'a)": "#t", "(eq? 'a 'b)": "#f", "(eq? 'a 'A)": "#f", "(eq? #t #t)": "#t", "(eq? #f #f)": "#t", "(eq? #t #f)": "#f", "(eq? '() '())": "#t", "(eq? (list) '())": "#t",
		"(eq? #t 1)": "#f", "(eq? '() #f)": "#f", "(eq? 0 #f)": "#f", "(eq? 'a 1)": "#f", "(eq? '() 0)": "#f", "(eq? '(1) '(1))": "#f", "(eq? car car)": "#f", "(eq? 1 '(1))": "#f", "(eq? '(1) 1)": "#f", "(eq? car 'car)": "#f", "(eq? 'car car)": "#f",
		"(let ((x '(1))) (eq? x x))": "#f", "(let ((f (lambda () 1))) (eq? f f))": "#f", "(let ((x '())) (eq? x x))": "#t", "(eq? 'quote (car ''a))": "#t", "(eq? " + highest + " (- " + highest + " 0))": "#t", "(eq? '() '(1))": "#f",
		"(not #f)": "#t", "(not #t)": "#f", "(not 0)": "#f", "(not '())": "#f", "(not 'f)": "#f", "(not '(#f))": "#f", "(not not)": "#f", "(not (not 1))": "#t",
	})
	failures(t, api.WhyCount, "(eq?)", "(eq? 1)", "(eq? 1 1 1)", "(not)", "(not 1 2)")
}

// P7: a procedure's names stand for what they stood for where its lambda was evaluated.
func TestNamesOfProcedures(t *testing.T) {
	answers(t, map[string]string{
		"(define x 1) (define (f) x) (let ((x 2)) (f))":                                                                      "1",
		"(define x 1) (define (f) x) (define x 3) (f)":                                                                       "3",
		"(define x 1) (define (f) x) (set! x 4) (f)":                                                                         "4",
		"(define (f) y) (define y 3) (f)":                                                                                    "3",
		"(define x 1) (define (f x) (set! x 5) x) (list (f 2) x)":                                                            "(5 1)",
		"(define x 1) (define (f) (set! x 5)) (f) x":                                                                         "5",
		"(define x 1) (let ((x 2)) (set! x 3)) x":                                                                            "1",
		"(define x 1) (let ((y 2)) (set! x y)) x":                                                                            "2",
		"(let ((x 1)) (let ((x 2)) (set! x 3)) x)":                                                                           "1",
		"(let ((x 1)) (let ((y 2)) (set! x y)) x)":                                                                           "2",
		"(let ((x 1)) ((lambda (x) (set! x 3)) 2) x)":                                                                        "1",
		"(let ((x 1) (y 2)) (let ((x y) (y x)) (list x y)))":                                                                 "(2 1)",
		"(define (c n) (lambda () (set! n (+ n 1)) n)) (define a (c 0)) (define b (c 10)) (list (a) (a) (b) (a))":            "(1 2 11 3)",
		"(define p (let ((n 0)) (cons (lambda () n) (lambda (m) (set! n m))))) ((cdr p) 7) ((car p))":                        "7",
		"(define (f n) (if (= n 0) 1 (* n (f (- n 1))))) (f 20)":                                                             "2432902008176640000",
		"(define (e n) (if (= n 0) #t (o (- n 1)))) (define (o n) (if (= n 0) #f (e (- n 1)))) (list (e 7) (e 8))":           "(#f #t)",
		"((lambda (a) ((lambda (b) ((lambda (c) (list a b c)) 3)) 2)) 1)":                                                    "(1 2 3)",
		"((lambda (a b) ((lambda (b c) (list a b c)) 3 4)) 1 2)":                                                             "(1 3 4)",
		"(let ((a 1)) (let ((b 2)) (let ((a 3)) (let () (list a b)))))":                                                      "(3 2)",
		"(let ((f (lambda (x) x))) (let ((x 5)) (f 6)))":                                                                     "6",
		"(define (twice f) (lambda (x) (f (f x)))) (((twice twice) (lambda (x) (* x 2))) 1)":                                 "16",
		"(let ((x 1)) (begin (set! x 5) x))":                                                                                 "5",
		"(let ((list +)) (list 1 2))":                                                                                        "3",
		"(define car cdr) (car '(1 2))":                                                                                      "(2)",
		"(set! + -) (+ 5 3)":                                                                                                 "2",
		"(define (f) (+ 1 2)) (define + *) (f)":                                                                              "2",
		"(define old +) (define (+ a b) (old a b 100)) (+ 1 2)":                                                              "103",
		"(define (f x) (lambda () x)) (define a (f 1)) (define b (f 2)) (list (a) (b))":                                      "(1 2)",
		"(define (f x) (if (= x 0) '() (cons (lambda () x) (f (- x 1))))) (define l (f 3)) (list ((car l)) ((car (cdr l))))": "(3 2)",
		"(define x 'a) (define (f) (set! x (cons x x)) x) (f) (f)":                                                           "((a . a) a . a)",
	})
	failures(t, api.WhyName,
		"(let ((x 1)) x) x", "(define (f) (let ((y 1)) y)) (f) y", "((lambda (x) x) 1) x", "(define (f) x) (let ((x 1)) (f))", "(let ((f (lambda () (f)))) (f))", "(let ((x 1) (y x)) y)", "(define (f x) (g)) (define (g) x) (f 1)",
		"(set! x 1) (define x 2)", "(define (f) (set! z 1)) (f)", "(let ((x (set! x 1))) x)",
	)
	failures(t, api.WhyCount, "(define (f x) x) (f)", "(define (f x) x) (f 1 2)", "(define (f) 1) (f 1)", "(define (+ a) a) (+ 1 2)")
	failures(t, api.WhyCall, "(define car 5) (car '(1))", "(set! car 'car) (car '(1))", "(define (f f) (f)) (f 1)", "(let ((list '(1))) (list))")
}

// P7: what was defined, set and shown stays from form to form and from call to call.
func TestWhatStays(t *testing.T) {
	m := rondo.New()
	wantValue(t, m, "(define x 1) (define (next) (set! x (+ x 1)) x)", "next", 4)
	wantValue(t, m, "(next)", "2", 8)
	wantValue(t, m, "(next) (next)", "4", 16)
	wantValue(t, m, "(define l '(a 1)) (define f car) (set! car cdr)", "()", 6)
	wantValue(t, m, "(list (f l) (car l))", "(a (1))", 8)
	wantValue(t, m, "(define x 'new)", "x", 2)
	wantWrong(t, m, "(next)", api.WhyType, 7)
	wantValue(t, m, "x", "new", 1)
	wantValue(t, m, "(define a (let ((n 0)) (lambda () (set! n (+ n 1)) n)))", "a", 4)
	wantValue(t, m, "(a)", "1", 8)
	wantValue(t, m, "(a) (a)", "3", 16)
}

// P7: it stays, too, if the evaluation goes wrong later.
func TestWhatStaysBehindWrong(t *testing.T) {
	m := rondo.New()
	wantWrong(t, m, "(define a 1) (display a) (set! a 2) (display a) (car a) (define b 3)", api.WhyType, 13, "1", "2")
	wantValue(t, m, "a", "2", 1)
	wantWrong(t, m, "b", api.WhyName, 1)
	wantWrong(t, m, "(let ((x 1)) (set! a 5) (x))", api.WhyCall, 6)
	wantValue(t, m, "a", "5", 1)
	wantWrong(t, m, "(set! a (begin (set! a 6) (car 1)))", api.WhyType, 7)
	wantValue(t, m, "a", "6", 1)
	wantWrong(t, m, "(define a (car 1))", api.WhyType, 4)
	wantValue(t, m, "a", "6", 1)
	wantWrong(t, m, "(define (d k x) (if (< k 1) x (d (- k 1) (cons x x)))) (set! a 7) (d 9 1)", api.WhyBig, 2+2+4+9*15+6)
	wantValue(t, m, "a", "7", 1)
}

// P7: and if it has no fuel: up to the step that there was none for.
func TestWhatStaysBehindNoFuel(t *testing.T) {
	source := "(define a 1) (define b 2) (set! a 3) (display a) (define a 4)"
	for fuel, want := range []struct{ a, b, shown string }{
		{}, {}, {a: "1"}, {a: "1"}, {a: "1", b: "2"}, {a: "1", b: "2"}, {a: "3", b: "2"}, {a: "3", b: "2"}, {a: "3", b: "2"}, {a: "3", b: "2", shown: "3"}, {a: "3", b: "2", shown: "3"},
	} {
		m := rondo.New()
		wantOutcome(t, m, source, fuel, api.Outcome{Kind: api.NoFuel, Steps: fuel, Shown: strings.Fields(want.shown)})
		for name, text := range map[string]string{"a": want.a, "b": want.b} {
			if text == "" {
				wantWrong(t, m, name, api.WhyName, 1)
			} else {
				wantValue(t, m, name, text, 1)
			}
		}
	}
}
