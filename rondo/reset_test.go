package rondo_test

import (
	"strconv"
	"strings"
	"testing"

	"rondo/api"
	"rondo/rondo"
)

// P8: k called never, once, again and again, and within itself; the steps of all that.
func TestCallsOfK(t *testing.T) {
	wantValues(t, []comesTo{
		{"(reset 1)", "1", 2}, {"(reset 1 2)", "2", 3}, {"(reset (reset (reset 1)))", "1", 4}, {"(+ 1 (reset 2 (+ 3 4)) 5)", "13", 10},
		{"(reset (shift k 1))", "1", 3}, {"(reset (shift k 1 2))", "2", 4}, {"(reset (cons 1 (shift k 2)))", "2", 6}, {"(+ 1 (reset (car (shift k 5))))", "6", 8}, {"(reset (shift k 1) (car 1))", "1", 3}, {"(reset (shift k (if #f 1)) 2)", "()", 4},
		{"(reset (shift k (k 1)))", "1", 6}, {"(reset (cons 1 (shift k (k 2))))", "(1 . 2)", 9}, {"(reset (+ 1 (shift k 5 (k 10))))", "11", 10}, {"(cons 0 (reset (cons 1 (shift k (cons 2 (k 3))))))", "(0 2 1 . 3)", 15},
		{"(+ 1 (reset (* 2 (shift k (k (k 5))))))", "21", 15}, {"(reset (* 2 (shift k (k (k (k (k 1)))))))", "16", 18}, {"(reset (* 2 (shift k (list (k 1) (k 2) (k 3)))))", "(2 4 6)", 19}, {"(reset (* 2 (shift k (- (k 5) (k 1)))))", "8", 15},
		{"(reset (* 2 (shift k (k 1) (k 2) 7)))", "7", 14}, {"(reset (list 1 (shift k (k k)) 2))", "(1 #<procedure> 2)", 10}, {"(reset ((lambda (f) (f 5)) (shift k (k (lambda (x) (* x x))))))", "25", 15},
		{"(reset (+ 1 (shift k (k (reset (k 3))))))", "5", 13}, {"(reset (let ((x (shift k k))) (if (procedure? x) 'made x)))", "#<procedure>", 4}, {"((reset (+ 1 (shift k k))) 5)", "6", 9}, {"((reset (shift k k)) 5)", "5", 6},
		{"(reset ((shift k (k car)) '(7 8)))", "7", 8}, {"((reset (list (shift k k) 2)) (reset (shift k k)))", "(#<procedure> 2)", 11},
	})
}

// P8: k called behind its reset, in a reset of its own, and in another reset.
func TestCallsOfKElsewhere(t *testing.T) {
	keep := "(define k 0) (reset (cons 1 (shift c (begin (set! k c) 0)))) "
	for source, want := range map[string]string{
		"(k 10)": "(1 . 10)", "(k (k 10))": "(1 1 . 10)", "(cons 5 (k 10))": "(5 1 . 10)", "(reset (k 10))": "(1 . 10)", "(reset (cons 5 (k 10)))": "(5 1 . 10)", "(cons 5 (reset (cons 6 (k 10))))": "(5 6 1 . 10)",
		"(reset (cons 5 (shift j (k 10))))": "(1 . 10)", "(reset (cons 5 (shift j (j (k 10)))))": "(5 1 . 10)", "(reset (cons 5 (shift j (k (j 10)))))": "(1 5 . 10)", "(reset (cons 5 (shift j (k j))))": "(1 . #<procedure>)",
		"(reset (cons 5 (k (shift j (j 10)))))": "(5 1 . 10)", "(reset (cons 5 (k (shift j 10))))": "10", "(let ((k (lambda (x) (k (k x))))) (k 7))": "(1 1 . 7)", "((lambda (f) (f (f 2))) k)": "(1 1 . 2)", "(k k)": "(1 . #<procedure>)",
		"(reset (k (reset (k (shift j 10)))))": "(1 . 10)", "(if (k #f) 'yes 'no)": "yes", "(k (car (k 2)))": "(1 . 1)", "(reset (car (k 10)) (cdr (k 11)))": "11",
	} {
		answers(t, map[string]string{keep + source: want})
	}
	answers(t, map[string]string{
		"(define k 0) (reset (+ 1 (shift c (begin (set! k c) 0)))) (k (k (k 0)))":                                                    "3",
		"(define k 0) (+ 100 (reset (+ 10 (shift c (begin (set! k c) 0))))) (k 1)":                                                   "11",
		"(define k 0) (reset (+ 1 (reset (+ 10 (shift c (begin (set! k c) 0)))))) (k 0)":                                             "10",
		"(define f (reset (let ((a 1) (b 2)) (let ((c (shift k k))) (list a b c))))) (let ((a 7) (b 8)) (f 9))":                      "(1 2 9)",
		"(define l (reset (list (shift k (list k (k 1)))))) ((car l) 2)":                                                             "(2)",
		"(define (count k n) (if (= n 0) 'end (begin (k n) (count k (- n 1))))) (count (reset (display (shift k k))) 3)":             "end",
		"(define l '()) (reset (set! l (cons (shift k (begin (k 1) (k 2) (k 3))) l))) l":                                             "(3 2 1)",
		"(define l '()) (reset (let ((x (shift k (begin (k 1) (k 2) (k 3))))) (set! l (cons x l)))) l":                               "(3 2 1)",
		"(define (yield x) (shift k (cons x (k 0)))) (reset (yield 1) (yield 2) (yield 3) '())":                                      "(1 2 3)",
		"(define (either l) (shift k (if (null? l) '() (cons (k (car l)) (reset (k (either (cdr l)))))))) (reset (either '(1 2)))":   "(1 2)",
		"(define (walk l) (if (null? l) (shift k k) (cons (car l) (walk (cdr l))))) (define k (reset (walk '(1 2)))) (k (k '(3)))":   "(1 2 1 2 3)",
		"(reset (let ((a (shift k (list (k 1) (k 2)))) (b (shift k (list (k 3) (k 4))))) (cons a b)))":                               "(((1 . 3) (1 . 4)) ((2 . 3) (2 . 4)))",
		"(define k (reset (begin (shift k k) (shift j j)))) (define j (k 1)) (j 5)":                                                  "5",
		"(define j (reset (let ((a (shift k k))) (let ((b (shift k k))) (list a b))))) (define l (j 1)) (list (l 2) (l 3) (j 4))":    "((1 2) (1 3) #<procedure>)",
		"(define j (reset (list (shift k k) (shift k k)))) (define a (j 1)) (define b (j 2)) (list (a 3) (b 4) (a 5))":               "((1 3) (2 4) (1 5))",
		"(define (twice k) (reset (k (k (shift j j))))) (define k (twice (twice (twice (reset (+ 1 (shift k k))))))) (list (k 0))":   "(8)",
		"(define (f n) (if (= n 0) (shift k k) (+ 1 (f (- n 1))))) (define k (reset (f 50))) (list (k 0) (k 1) (k (k 2)))":           "(50 51 102)",
		"(define (f n) (if (= n 0) 0 (+ (shift k (k 1)) (f (- n 1))))) (reset (f 50))":                                               "50",
		"(define (f n) (if (= n 0) '() (reset (cons n (f (- n 1)))))) (f 5)":                                                         "(5 4 3 2 1)",
		"(define (f n) (if (= n 0) (shift k 'out) (reset (cons n (f (- n 1)))))) (list (f 3) (f 1))":                                 "((3 2 . out) out)",
		"(define (f n k) (if (= n 0) (k 'end) (f (- n 1) (reset (cons n (k (shift j j))))))) (f 3 (reset (list 'last (shift k k))))": "(1 2 3 last end)",
	})
}

// P8: a shift needs a reset that is being evaluated, wherever its text stands.
func TestShiftWithoutReset(t *testing.T) {
	wantAllWrong(t, []goesWrong{
		{"(shift k 1)", api.WhyReset, 1}, {"(shift k (car 1))", api.WhyReset, 1}, {"1 (shift k k)", api.WhyReset, 2}, {"(+ 1 (shift k 1))", api.WhyReset, 4}, {"(begin (reset 1) (shift k 1))", api.WhyReset, 4}, {"(reset 1) (shift k 1)", api.WhyReset, 3},
		{"(list (reset (shift k 1)) (shift k 1))", api.WhyReset, 6}, {"(list (reset (shift k (k 1))) (shift k 1))", api.WhyReset, 9}, {"((reset (lambda () (shift k 1))))", api.WhyReset, 4}, {"(let ((f (reset (lambda () (shift k 1))))) (reset 5) (f))", api.WhyReset, 8},
		{"((reset (shift k k)) (shift k 1))", api.WhyReset, 5}, {"(begin ((reset (shift k k)) 1) (shift k 1))", api.WhyReset, 8}, {"(define x (shift k 1))", api.WhyReset, 2}, {"((reset (shift k (lambda (x) (shift j 1)))) 1)", api.WhyReset, 6},
		{"(define k (reset (shift k k))) (list (k 1) (shift j 2))", api.WhyReset, 11}, {"(define (f) (shift k 1)) (reset (f)) (f)", api.WhyReset, 10}, {"(define k 0) (reset (begin (shift c (set! k c)) (shift d 5))) (k 1) (shift e 1)", api.WhyReset, 14},
		{"(set! car (shift k k))", api.WhyReset, 2}, {"(if (shift k k) 1 2)", api.WhyReset, 2}, {"(let ((x (shift k k))) 1)", api.WhyReset, 2}, {"(and 1 (shift k k))", api.WhyReset, 3}, {"((lambda () (shift k k)))", api.WhyReset, 3},
	})
	wantValues(t, []comesTo{
		{"(reset ((lambda () (shift k 1))))", "1", 5}, {"(let ((f (reset (lambda () (shift k 1))))) (reset (+ 1 (f))))", "1", 11}, {"(define (f) (shift k 1)) (+ 1 (reset (+ 10 (f))))", "2", 13}, {"(define (f x) (shift k (k (k x)))) (reset (* 3 (f 2)))", "18", 17},
		{"(define (f) (reset (g))) (define (g) (shift k (list (k 1)))) (f)", "(1)", 16}, {"(reset (let ((f (lambda (g) (g)))) (+ 1 (f (lambda () (shift k 7))))))", "7", 13}, {"(define (f) (if #f (shift k 1) 2)) (f)", "2", 7},
		{"(if #t 1 (shift k 1))", "1", 3}, {"(and #f (shift k 1))", "#f", 2}, {"(lambda () (shift k 1))", "#<procedure>", 1},
	})
}

// P8: a shift in what was taken away reaches up to the reset of the call of k, one in a shift's body to the reset whose value the body is.
func TestHowFarShiftsReach(t *testing.T) {
	wantValues(t, []comesTo{
		{"(cons 'out (reset (begin (shift k (list 'body (k 0))) (shift j 'cut))))", "(out body cut)", 15}, {"(reset (let ((x (shift k (cons 'a (k 1))))) (shift j x)))", "(a . 1)", 12}, {"(reset (list (shift k (list 'a (k 1))) (shift k (list 'b (k 2)))))", "(a (b (1 2)))", 19},
		{"(reset (list (shift k (list (k 1))) (shift k 2)))", "(2)", 12}, {"(reset (list (shift k (k 1)) (shift k (k 2))))", "(1 2)", 13}, {"(reset (+ (shift k (+ 100 (k 1))) (shift k (k (k 2)))))", "104", 19},
		{"(cons 0 (reset (cons 1 (shift k (cons 2 (shift j 3))))))", "(0 . 3)", 13}, {"(cons 0 (reset (cons 1 (shift k (cons 2 (shift j (j 3)))))))", "(0 2 . 3)", 16}, {"(reset (cons 1 (shift k (cons 2 (shift j (k (j 3)))))))", "(1 2 . 3)", 16}, {"(reset (cons 1 (shift k (shift j (shift l 5)))))", "5", 8},
		{"(reset (cons 1 (shift k (shift j (cons (k 5) (j 6))))))", "((1 . 5) . 6)", 16}, {"(reset (+ 1 (reset (+ 10 (shift k (shift j 5))))))", "6", 11}, {"(reset (+ 1 (reset (+ 10 (shift k (k (shift j 5)))))))", "6", 13}, {"(+ 1 (reset (+ 10 (reset (+ 100 (shift k 5))))))", "16", 13},
		{"(reset (cons 1 (reset (cons 2 (reset (cons 3 (shift k (k 4))))))))", "(1 2 3 . 4)", 17}, {"(reset (cons 'a (reset (cons 'b (shift k (cons 'c (k (shift j (cons 'd (j '()))))))))))", "(a d c b)", 23}, {"(reset (reset (shift k 1)) 2)", "2", 5},
		{"(reset (+ 1 (shift k (+ (k 1) (reset (k 2))))))", "5", 16}, {"(reset (cons 1 (shift k (reset (cons 2 (shift j 3))))))", "3", 11}, {"(reset (cons 1 (shift k (reset (cons 2 (shift j (k (j 3))))))))", "(1 2 . 3)", 17},
		{"(reset (cons (reset (shift k k)) (shift j (j 2))))", "(#<procedure> . 2)", 11}, {"(reset (list (reset (cons 1 (shift k (list (k 2) (k 3))))) 4))", "(((1 . 2) (1 . 3)) 4)", 19},
	})
}

// P8: out of each form and out of each place in a call: what was taken away comes, with a value, to what the form comes to with the value in the shift's stead.
func TestTakenOutOfEachForm(t *testing.T) {
	contexts := []string{
		"@", "(begin @ 7)", "(begin 1 @)", "(begin 1 @ 2)", "(begin (begin @))", "(if @ 1 2)", "(if @ 1)", "(if #t @ 2)", "(if #f 1 @)", "(if (if @ #f #t) 1 2)", "(and @ 5)", "(and 1 @)", "(and 1 @ 5)", "(or @ 5)", "(or #f @)", "(or #f @ 5)",
		"(let ((x @)) (cons x x))", "(let ((x 1) (y @) (z 3)) (list x y z))", "(let ((x 1)) @)", "(let ((x 1)) @ x)", "(let ((x 1)) x @ (list x))", "(let ((x 0)) (set! x @) x)", "(set! u @) u", "(begin (set! u (list @)) (cons u u))", "(set! u @)",
		"((lambda (x) @ x) 1)", "((lambda (x) (list x @)) 1)", "((lambda (x y) (cons y x)) @ 2)", "((lambda (x y) (cons y x)) 1 @)", "((lambda () @))", "((if @ car cdr) '(1 2))", "((begin @ list) 1 2)", "(list (list (list @)) 5)", "(f @)", "(f (f @))", "(g (lambda () @))",
		"(list 1 (reset (list 2 3)) @)", "(list 0 (shift j (list 1 @)))", "(list 0 (shift j (j (list 1 @))))", "(list 0 (shift j (list (j 1) @ (j 2))))", "(list @ (shift j (j (j 3))))", "(cons 1 2) @ 3", "(h @)", "(list (h @) (h 2))",
	}
	for count := range 9 {
		for place := range count {
			contexts = append(contexts, "(list"+strings.Repeat(" 1", place)+" @"+strings.Repeat(" 2", count-place-1)+")")
		}
	}
	names := "(define u 0) (define (f x) (list 'f x)) (define (g t) (cons (t) 'g)) (define h (reset (list 'h (shift k k)))) "
	values := []string{"1", "#f", "'(a b)"}
	for _, context := range contexts {
		plain := map[string]string{}
		for _, value := range values {
			got, _, _ := rondo.New().Eval(names+"(reset "+strings.Replace(context, "@", value, 1)+")", api.MaxFuel)
			plain[value] = got.Text
		}
		for _, a := range values {
			for _, b := range values {
				taken := strings.Replace(context, "@", "(shift k (list (k "+a+") (k "+b+") (k "+a+")))", 1)
				answers(t, map[string]string{names + "(reset " + taken + ")": "(" + plain[a] + " " + plain[b] + " " + plain[a] + ")"})
			}
		}
	}
}

// P8: no call of k sees what another had: arguments, bindings and parameters that came later are each call's own.
func TestCallsOfKAreApart(t *testing.T) {
	counter := "(lambda () (set! x (+ x 1)) (list w x y))"
	for _, makes := range []string{
		"(let ((w 0) (x (shift k (cons (k 1) (k 10)))) (y 5)) " + counter + ")",
		"(let ((w 0)) (let ((x (shift k (cons (k 1) (k 10))))) (let ((y 5)) " + counter + ")))",
		"(let ((w 0) (x (shift k (cons (k 1) (k 10)))) (y 4)) (set! y 5) " + counter + ")",
		"((lambda (w x y) " + counter + ") 0 (shift k (cons (k 1) (k 10))) 5)",
		"((lambda (w x) (let ((y 5)) " + counter + ")) 0 (shift k (cons (k 1) (k 10))))",
	} {
		m := rondo.New()
		got, _, _ := m.Eval("(define p (reset "+makes+")) (define a (car p)) (define b (cdr p))", api.MaxFuel)
		if got.Text != "b" {
			t.Errorf("%s: %v", makes, got)
		}
		for _, c := range []struct{ source, want string }{
			{"(list (a) (a) (b) (a) (b))", "((0 2 5) (0 3 5) (0 11 5) (0 4 5) (0 12 5))"}, {"(a)", "(0 5 5)"}, {"(b)", "(0 13 5)"},
		} {
			if got, _, _ := m.Eval(c.source, api.MaxFuel); got.Text != c.want {
				t.Errorf("%s: %s: %v, want %s", makes, c.source, got, c.want)
			}
		}
	}
	answers(t, map[string]string{
		"(define k (reset (list 1 2 (shift k k) 4 5))) (define a (k 'a)) (define b (k 'b)) (list a b (k 'c) a)":                                                         "((1 2 a 4 5) (1 2 b 4 5) (1 2 c 4 5) (1 2 a 4 5))",
		"(define k (reset (list 1 (shift k k) (shift k k) (shift k k)))) (define a (k 2)) (define b (a 3)) (define c (a 4)) (list (c 5) (b 6) ((a 7) 8) (((k 9) 9) 9))": "((1 2 4 5) (1 2 3 6) (1 2 7 8) (1 9 9 9))",
		"(define k (reset (let ((a 1) (b (shift k k)) (c (shift k k))) (list a b c)))) (define x (k 2)) (define y (k 3)) (list (x 4) (y 5) (x 6))":                      "((1 2 4) (1 3 5) (1 2 6))",
		"(define (f x) (shift k (set! x (+ x 1)) (list (k x) (k (+ x x)) x))) (reset (list (f 1) (f 10)))":                                                              "(((2 11) (2 22) 11) ((4 11) (4 22) 11) 2)",
	})
}

// P7, P8: names stand for what they are set to when they are met, not for what they stood for when k was made.
func TestNamesSetBetweenCallsOfK(t *testing.T) {
	answers(t, map[string]string{
		"(define x 1) (reset (+ x (shift k (begin (set! x 100) (k 10)))))":                                                                        "11",
		"(define x 1) (reset (+ (shift k (begin (set! x 100) (k 10))) x))":                                                                        "110",
		"(let ((x 1)) (reset (+ (shift k (begin (set! x 100) (k 10))) x)))":                                                                       "110",
		"(let ((x 1)) (reset (list (shift k (list (k 1) (set! x 2) (k 1) x)) x)))":                                                                "((1 1) () (1 2) 2)",
		"(reset (let ((x 1)) (list (shift k (list (k 1) (set! x 2) (k 1) x)) x)))":                                                                "((1 1) () (1 2) 2)",
		"(reset (let ((y 0)) (begin (shift k (begin (k 0) (k 0))) (set! y (+ y 1)) y)))":                                                          "2",
		"(define n 0) (define k 0) (reset (begin (shift c (begin (set! k c) 0)) (set! n (+ n 1)) n)) (k 0) (k 0) n":                               "2",
		"(define x 1) (reset (begin (set! x (shift k (begin (k 5) x))) 0))":                                                                       "5",
		"(define k (reset (+ (shift k k) y))) (define y 5) (define a (k 1)) (define y 7) (list a (k 1))":                                          "(6 8)",
		"(define k (reset (set! z (shift k k)))) (define z 0) (k 3) z":                                                                            "3",
		"(define k (reset (car (shift k k)))) (define old car) (set! car cdr) (list (k '(1 2)) (car '(1 2)))":                                     "(1 (2))",
		"(define k (reset (let ((f (shift k k))) (car f)))) (set! car cdr) (k '(1 2))":                                                            "(2)",
		"(define l (reset (let ((x (shift k (list k (k 1))))) (set! x (+ x 1)) x))) (list (car (cdr l)) ((car l) 5) ((car l) 5))":                 "(2 6 6)",
		"(reset (let ((k (shift k (begin (set! k (lambda (x) (list x))) (k 1))))) k))":                                                            "(1)",
		"(define k 5) (reset (+ 1 (shift k (begin (set! k 7) k)))) k":                                                                             "5",
		"(reset (shift k (let ((j k)) (set! k 1) (list (j 2) k))))":                                                                               "(2 1)",
		"(let ((k 1)) (reset (list k (shift k (k 2)) k)))":                                                                                        "(1 2 1)",
		"(let ((a 1)) (reset (shift k (let ((b 2)) (shift j (list a b (procedure? k) (procedure? j)))))))":                                        "(1 2 #t #t)",
		"(define p (reset (let ((x 0)) (shift k (cons (lambda () x) k)) (set! x (+ x 1)) x))) (list ((cdr p) 0) ((car p)) ((cdr p) 0) ((car p)))": "(1 1 2 2)",
	})
}

// P8: k is a procedure of one argument.
func TestKAsAProcedure(t *testing.T) {
	wantAllWrong(t, []goesWrong{
		{"((reset (shift k k)))", api.WhyCount, 4}, {"((reset (shift k k)) 1 2)", api.WhyCount, 6}, {"(reset (+ 1 (shift k (k))))", api.WhyCount, 7}, {"(reset (+ 1 (shift k (k 1 2 3))))", api.WhyCount, 10}, {"(reset (shift k (k 1 (k))))", api.WhyCount, 7},
		{"((reset (car (shift k k))) 1 2)", api.WhyCount, 8}, {"(reset ((shift k (k k)) 7))", api.WhyCall, 10}, {"(reset ((shift k (k 1)) 2))", api.WhyCall, 8}, {"((reset (shift k 5)) 1)", api.WhyCall, 5}, {"(reset (+ 1 (shift k (k k))))", api.WhyType, 9}, {"(car (reset (shift k k)))", api.WhyType, 5},
		{"(reset (shift k (k x)))", api.WhyName, 5}, {"(reset (shift k 1)) k", api.WhyName, 4}, {"(reset k (shift k 1))", api.WhyName, 2}, {"(reset (begin (shift k (k 1)) k))", api.WhyName, 8},
	})
	answers(t, map[string]string{
		"(reset (shift k k))": "#<procedure>", "(reset (shift k (list k)))": "(#<procedure>)", "(reset (shift k (cons k k)))": "(#<procedure> . #<procedure>)", "(if (reset (shift k k)) 1 2)": "1", "(not (reset (shift k k)))": "#f",
		"(reset (shift k (eq? k k)))": "#f", "(reset (shift k (eq? k 'k)))": "#f", "(reset (shift k (eq? 'k k)))": "#f", "(let ((k (reset (shift k k)))) (eq? k k))": "#f", "(reset (shift k (let ((l k)) (l 1))))": "1",
	})
	for question, want := range map[string]string{"procedure?": "#t", "pair?": "#f", "null?": "#f", "number?": "#f", "symbol?": "#f", "boolean?": "#f"} {
		answers(t, map[string]string{"(" + question + " (reset (shift k k)))": want, "(reset (+ 1 (shift k (" + question + " k))))": want})
	}
	wantValue(t, rondo.New(), "(reset (display (shift k (display k) k)))", "#<procedure>", 8, "#<procedure>")
}

// P6, P8: what is shown within what was taken away is shown each time.
func TestShownByCallsOfK(t *testing.T) {
	wantValue(t, rondo.New(), "(reset (begin (display 1) (shift k (begin (display 2) (k 0) (display 3) (k 0))) (display 4) 5))", "5", 29, "1", "2", "4", "3", "4")
	wantValue(t, rondo.New(), "(reset (display (shift k (k 'a) (k 'b) (display 'c) 'd)))", "d", 16, "a", "b", "c")
	m := rondo.New()
	wantValue(t, m, "(define k (reset (begin (display 'in) (display (shift k k)) (display 'out))))", "k", 10, "in")
	wantValue(t, m, "(k 1) (k 2)", "()", 14, "1", "out", "2", "out")
	wantValue(t, m, "5", "5", 1)
	wantValue(t, m, "(k 3)", "()", 7, "3", "out")
}

// P6: all of that with each fuel: each step of it counts, the call of k's own too.
func TestEveryFuelWithShift(t *testing.T) {
	everyFuel(t, []comesTo{
		{"(+ 1 (reset (* 2 (shift k (k (k 5))))))", "21", 15}, {"(reset (cons 1 (shift k 2)))", "2", 6}, {"((reset (shift k k)) 5)", "5", 6}, {"(define k 0) (reset (+ 1 (shift c (begin (set! k c) 0)))) (k 10)", "11", 15}, {"(reset 1 (shift k 2 (k 3)) 4)", "4", 9},
		{"(reset (list (shift k (list (k 1) (k 2))) (shift k (k 3))))", "((1 3) (2 3))", 24}, {"(reset (begin (display 1) (shift k (k 0) (k 0)) (display 2) 3))", "3", 22}, {"(define k (reset (let ((x (shift k k))) (set! x (+ x 1)) x))) (list (k 1) (k 2))", "(2 3)", 27},
	})
	// The call of k is the fourth step, and there is none if k does not take the arguments.
	m := rondo.New()
	wantValue(t, m, "(define k (reset (list 1 (shift k k))))", "k", 7)
	for fuel := range 4 {
		wantOutcome(t, m, "(k 5)", fuel, api.Outcome{Kind: api.NoFuel, Steps: fuel})
	}
	wantOutcome(t, m, "(k 5)", 4, api.Outcome{Kind: api.Value, Text: "(1 5)", Steps: 4})
	wantOutcome(t, m, "(k 5)", 5, api.Outcome{Kind: api.Value, Text: "(1 5)", Steps: 4})
	wantOutcome(t, m, "(k)", 2, api.Outcome{Kind: api.Wrong, Why: api.WhyCount, Steps: 2})
	wantOutcome(t, m, "(k)", 1, api.Outcome{Kind: api.NoFuel, Steps: 1})
	wantOutcome(t, m, "(k 1 2)", 4, api.Outcome{Kind: api.Wrong, Why: api.WhyCount, Steps: 4})
	wantOutcome(t, m, "(k 1 2)", 3, api.Outcome{Kind: api.NoFuel, Steps: 3})
	wantOutcome(t, m, "(shift j 1)", 1, api.Outcome{Kind: api.Wrong, Why: api.WhyReset, Steps: 1})
	wantOutcome(t, m, "(shift j 1)", 0, api.Outcome{Kind: api.NoFuel})
	wantOutcome(t, m, "(reset (shift j 1))", 2, api.Outcome{Kind: api.NoFuel, Steps: 2})
	wantOutcome(t, m, "(reset (shift j 1))", 1, api.Outcome{Kind: api.NoFuel, Steps: 1})
}

// P1, P6: what goes round by way of resets, shifts and calls of k ends with the fuel.
func TestEndlessCallsOfK(t *testing.T) {
	for _, loop := range []string{
		"(define (f) (reset (f))) (f)", "(define (f) (+ 1 (reset (f)))) (f)", "(define (f) (reset (+ 1 (f)))) (f)", "(define (f) (shift k (f))) (reset (f))", "(define (f) (shift k (k (f)))) (reset (f))", "(define (f) (shift k (f) (k 1))) (reset (+ 1 (f)))",
		"(define (f) (+ 1 (shift k (k (f))))) (reset (f))", "(reset (let ((f (shift k (k k)))) (f f)))", "(let ((f (reset (let ((x (shift k k))) (x x))))) (f f))", "(define k 0) (reset (begin (shift c (begin (set! k c) (c 0))) (k 1)))", "(define k 0) (reset (shift c (set! k c)) (k 1)) (k 2)",
		"(define k 0) (reset (+ 1 (begin (shift c (begin (set! k c) (c 0))) (k 1))))", "(define (f k) (f (reset (k (shift j j))))) (f (reset (shift k k)))", "(define (f l) (f (reset (cons 1 (shift k (cons (k l) (k l))))))) (f 1)", "(define (f k) (reset (k (k 1))) (f (reset (k (k (shift j j)))))) (f (reset (cons 1 (shift k k))))",
	} {
		for _, fuel := range []int{0, 1, 17, 1000, 19999, 20000, 20001} {
			wantOutcome(t, rondo.New(), loop, fuel, api.Outcome{Kind: api.NoFuel, Steps: min(fuel, 20000)})
		}
	}
	// Each time it is doubled, one call makes two calls that evaluate no form: only their own steps are counted.
	m := rondo.New()
	wantValue(t, m, "(define (twice k) (reset (k (k (shift j j)))))", "twice", 2)
	wantValue(t, m, "(define k (reset (+ 1 (shift j j))))", "k", 7)
	for times := range 14 {
		wantValue(t, m, "(k 0)", strconv.Itoa(1<<times), 3+2<<times-1)
		wantValue(t, m, "(set! k (twice k))", "()", 11)
	}
	wantOutcome(t, m, "(k 0)", api.MaxFuel, api.Outcome{Kind: api.NoFuel, Steps: api.MaxFuel})
	// What was taken away may be long, and is done without a step.
	wantValue(t, m, "(define (f n) (if (= n 0) (shift k k) (+ 1 (f (- n 1))))) (define k (reset (f 1000)))", "k", 14014)
	wantValue(t, m, "(list (k 0) (k 5))", "(1000 1005)", 10)
}

// P8: k can be called when the Eval is over, any number of times, in a reset or in none.
func TestCallsOfKInLaterEvals(t *testing.T) {
	m := rondo.New()
	wantValue(t, m, "(define k 0) (reset (cons 1 (shift c (begin (set! k c) 'none))))", "none", 11)
	wantValue(t, m, "(k 2)", "(1 . 2)", 4)
	wantValue(t, m, "(+ 1 (car (k 2)))", "2", 9)
	wantValue(t, m, "(reset (cons 0 (k (shift j (j 5)))))", "(0 1 . 5)", 12)
	wantValue(t, m, "(define j k) (define k 0) (list (j 1) (j 2))", "((1 . 1) (1 . 2))", 14)
	wantValue(t, m, "(define l (reset (let ((n 0)) (shift k k) (set! n (+ n 1)) (list n (shift k k)))))", "l", 6)
	wantValue(t, m, "(define a (l 0))", "a", 15)
	wantValue(t, m, "(define b (l 0))", "b", 15)
	wantValue(t, m, "(list (a 5) (b 6) (a 7))", "((1 5) (2 6) (1 7))", 14)
	wantValue(t, m, "(l 0)", "#<procedure>", 14)
	wantWrong(t, m, "(shift x 1)", api.WhyReset, 1)
	wantWrong(t, m, "(l (shift x 1))", api.WhyReset, 3)
	other := rondo.New()
	wantWrong(t, other, "(k 2)", api.WhyName, 2)
	wantWrong(t, other, "(define j (reset (shift k k))) (j 1) (l 1)", api.WhyName, 10)
	wantValue(t, m, "(j 3)", "(1 . 3)", 4)
	// A source that is refused takes nothing away.
	wantEvalRefusal(t, m, "(set! j (reset (shift k k))) (shift)", api.ErrForm, 29)
	wantValue(t, m, "(j 3)", "(1 . 3)", 4)
}

// P7, P8: it goes wrong within what was taken away, and what was defined, set, shown and taken away stays.
func TestWrongInCallsOfK(t *testing.T) {
	m := rondo.New()
	wantWrong(t, m, "(define n 0) (define k (reset (begin (set! n (+ n 1)) (car (shift k k))))) (display n) (k 5)", api.WhyType, 21, "1")
	wantValue(t, m, "n", "1", 1)
	wantValue(t, m, "(k '(1))", "1", 4)
	wantWrong(t, m, "(begin (display 1) (k (car 1)))", api.WhyType, 9, "1")
	wantWrong(t, m, "(reset (+ 1 (reset (+ 2 (k 'a)))))", api.WhyType, 12)
	wantWrong(t, m, "(shift j 1)", api.WhyReset, 1)
	wantWrong(t, m, "(+ 1 (reset (+ 1 (shift c (set! k c) (set! n 2) (x)))))", api.WhyName, 14)
	wantValue(t, m, "(list n (k 5))", "(2 6)", 7)
	wantWrong(t, m, "(shift j 1)", api.WhyReset, 1)
	wantWrong(t, m, "(reset (list (k 1) (k 'a) (k 2)))", api.WhyType, 11)
	wantWrong(t, m, "(reset (begin (shift c (set! k c) (c 1)) (set! n 7) (display n) (car n) (set! n 8)))", api.WhyType, 17, "7")
	wantWrong(t, m, "(k 1)", api.WhyType, 12, "7")
	wantValue(t, m, "(set! n 3) (set! car (lambda (x) n))", "()", 4)
	wantValue(t, m, "(k 1)", "()", 15, "7")
	wantValue(t, m, "n", "8", 1)
	wantAllWrong(t, []goesWrong{
		{"(reset (+ 1 (shift k (car 5))))", api.WhyType, 8}, {"(reset (+ 1 (shift k (k 'a))))", api.WhyType, 9}, {"(reset (begin (shift k (k 1)) (1)))", api.WhyCall, 9}, {"(reset (quotient 1 (shift k (k 0))))", api.WhyZero, 9}, {"(reset (- (shift k (k -9223372036854775808))))", api.WhyOver, 8},
		{"(reset (begin (shift k (k 1)) ((lambda (x) x))))", api.WhyCount, 9}, {"(reset (set! x (shift k (k 1))))", api.WhyName, 7},
	})
	big := "(define (d n x) (if (< n 1) x (d (- n 1) (cons x x)))) "
	failures(t, api.WhyBig, big+"(reset (shift k (k (d 9 1))))", big+"(reset (display (shift k (k (d 9 1)))))", big+"(reset (cons 1 (shift k (k (d 9 1)))))", big+"(reset (shift k (d 9 k)))")
}

// P7, P8: it has no fuel within what was taken away, and all that was done up to then stays.
func TestNoFuelInCallsOfK(t *testing.T) {
	source := "(reset (begin (set! a (shift c (set! k c) (c 1) (c 2))) (display a) (set! b a)))"
	whole := rondo.New()
	wantValue(t, whole, "(define a 0) (define b 0) (define k car)", "k", 6)
	wantValue(t, whole, source, "()", 24, "1", "2")
	for fuel := range 24 {
		m := rondo.New()
		wantValue(t, m, "(define a 0) (define b 0) (define k car)", "k", 6)
		// The first call of k begins at step 10, shows at 13 and has set b at 15; the second is nine steps behind.
		a, b, shown := 0, 0, []string(nil)
		for i, begun := range []int{10, 19} {
			if fuel >= begun {
				a = i + 1
			}
			if fuel >= begun+3 {
				shown = append(shown, strconv.Itoa(i+1))
			}
			if fuel >= begun+5 {
				b = i + 1
			}
		}
		wantOutcome(t, m, source, fuel, api.Outcome{Kind: api.NoFuel, Steps: fuel, Shown: shown})
		wantValue(t, m, "(list a b)", "("+strconv.Itoa(a)+" "+strconv.Itoa(b)+")", 4)
		wantWrong(t, m, "(shift j 1)", api.WhyReset, 1)
		if fuel >= 6 {
			wantValue(t, m, "(k 7) (list a b)", "(7 7)", 13, "7")
		} else {
			wantValue(t, m, "(k '(7))", "7", 3)
		}
	}
}
