package rondo_test

import (
	"math"
	"slices"
	"strings"
	"sync"
	"testing"
	"unsafe"

	"rondo/api"
	"rondo/rondo"
)

func sameOutcome(a, b api.Outcome) bool {
	return a.Kind == b.Kind && a.Text == b.Text && a.Why == b.Why && a.Steps == b.Steps && slices.Equal(a.Shown, b.Shown)
}

func wantOutcome(t *testing.T, m *rondo.Machine, source string, fuel int, want api.Outcome) {
	t.Helper()
	got, errno, place := m.Eval(source, fuel)
	if !sameOutcome(got, want) || errno != api.OK || place != 0 {
		t.Errorf("Eval(%.200q, %d) = %+v, %d, %d, want %+v", source, fuel, got, errno, place, want)
	}
}

func wantValue(t *testing.T, m *rondo.Machine, source, text string, steps int, shown ...string) {
	t.Helper()
	wantOutcome(t, m, source, api.MaxFuel, api.Outcome{Kind: api.Value, Text: text, Steps: steps, Shown: shown})
}

func wantWrong(t *testing.T, m *rondo.Machine, source string, why, steps int, shown ...string) {
	t.Helper()
	wantOutcome(t, m, source, api.MaxFuel, api.Outcome{Kind: api.Wrong, Why: why, Steps: steps, Shown: shown})
}

// comesTo is a source that has a value, and how many steps that takes.
type comesTo struct {
	source, text string
	steps        int
}

func wantValues(t *testing.T, list []comesTo) {
	t.Helper()
	for _, c := range list {
		wantValue(t, rondo.New(), c.source, c.text, c.steps)
	}
}

// goesWrong is a source that has none, and why.
type goesWrong struct {
	source     string
	why, steps int
}

func wantAllWrong(t *testing.T, list []goesWrong) {
	t.Helper()
	for _, c := range list {
		wantWrong(t, rondo.New(), c.source, c.why, c.steps)
	}
}

// P6: the value and the steps of each form.
func TestFormsComeToValues(t *testing.T) {
	wantValues(t, []comesTo{
		{"", "", 0}, {" ; 1", "", 0}, {"1", "1", 1}, {"-007", "-7", 1}, {"#t", "#t", 1}, {"#f", "#f", 1}, {"1 2 3", "3", 3},
		{"'a", "a", 1}, {"'(1 . (2 . 3))", "(1 2 . 3)", 1}, {"(quote (a 'b))", "(a (quote b))", 1}, {"'#f", "#f", 1}, {"'-5", "-5", 1},
		{"(if 1 2 3)", "2", 3}, {"(if #f 2 3)", "3", 3}, {"(if 1 2)", "2", 3}, {"(if #f 2)", "()", 2}, {"(if #f x)", "()", 2}, {"(if #t #f)", "#f", 3},
		{"(if 0 1 2)", "1", 3}, {"(if '() 1 2)", "1", 3}, {"(if 'f 1 2)", "1", 3}, {"(if car 1 2)", "1", 3}, {"(if '(#f) 1 2)", "1", 3}, {"(if #t 1 x)", "1", 3}, {"(if '#f 1 2)", "2", 3},
		{"(if (if #f #f) 1 2)", "1", 4},
		{"(lambda () x)", "#<procedure>", 1}, {"((lambda () 5))", "5", 3}, {"((lambda () 1 2 3))", "3", 5}, {"((lambda (x y) (- x y)) 7 3)", "4", 8}, {"((lambda (x) (lambda () x)) 1)", "#<procedure>", 4},
		{"(((lambda (x) (lambda (y) (list x y))) 1) 2)", "(1 2)", 10},
		{"(begin 1)", "1", 2}, {"(begin 1 2 3)", "3", 4}, {"(begin (begin (begin 1)))", "1", 4},
		{"(let () 7)", "7", 2}, {"(let () 1 2)", "2", 3}, {"(let ((x 1)) x)", "1", 3}, {"(let ((x 1) (y 2)) (list y x))", "(2 1)", 7}, {"(let ((x 1)) (let ((x 2) (y x)) (list x y)))", "(2 1)", 9},
		{"(set! car 5)", "()", 2}, {"(let ((x 1)) (set! x 2) x)", "2", 5}, {"(let ((x 1)) (set! x 2))", "()", 4},
		{"(and)", "#t", 1}, {"(and 1)", "1", 2}, {"(and #f)", "#f", 2}, {"(and 1 2)", "2", 3}, {"(and 1 '())", "()", 3}, {"(and 1 #f 2)", "#f", 3}, {"(and #f (car 1))", "#f", 2}, {"(and 0 '() 'a)", "a", 4}, {"(and 1 #f)", "#f", 3},
		{"(or)", "#f", 1}, {"(or 1)", "1", 2}, {"(or #f)", "#f", 2}, {"(or #f #f)", "#f", 3}, {"(or #f 2 3)", "2", 3}, {"(or 0 (car 1))", "0", 2}, {"(or #f '())", "()", 3}, {"(or #f #f 3)", "3", 4},
		{"(define x 5)", "x", 2}, {"(define x 5) x", "5", 3}, {"(define (f) 1)", "f", 2}, {"(define (f x) x x) (f 3)", "3", 7}, {"(define x 1) (define x 2) x", "2", 5}, {"(define x 'y)", "x", 2},
		{"(+ 1 (* 2 3))", "7", 7}, {"(list)", "()", 2}, {"(list car 1 (lambda () 1))", "(#<procedure> 1 #<procedure>)", 5}, {"(car (cons car 1))", "#<procedure>", 6},
	})
}

// P6: parts are evaluated from the left, each once.
func TestOrderOfEvaluation(t *testing.T) {
	say := "(define (s x) (display x) x) "
	for _, c := range []struct{ source, text, shown string }{
		{"((s car) (s '(7)))", "7", "#<procedure> (7)"}, {"(list (s 1) (s 2) (s 3))", "(1 2 3)", "1 2 3"}, {"(- (s 9) (+ (s 1) (s 2)) (s 3))", "3", "9 1 2 3"},
		{"(if (s #f) (s 1) (s 2))", "2", "#f 2"}, {"(if (s 0) (s 1) (s 2))", "1", "0 1"}, {"(begin (s 1) (s 2) (s 3))", "3", "1 2 3"}, {"(let ((a (s 1)) (b (s 2))) (s 3) (s 4))", "4", "1 2 3 4"},
		{"(and (s 1) (s #f) (s 3))", "#f", "1 #f"}, {"(or (s #f) (s 2) (s 3))", "2", "#f 2"}, {"((lambda (x) (s 2) (s x)) (s 1))", "1", "1 2 1"}, {"(s 1) (s 2) (s 3)", "3", "1 2 3"},
		{"(set! s (s 1))", "()", "1"}, {"(define x (s 1))", "x", "1"}, {"(lambda () (s 1))", "#<procedure>", ""},
	} {
		got, errno, place := rondo.New().Eval(say+c.source, api.MaxFuel)
		if got.Text != c.text || !slices.Equal(got.Shown, strings.Fields(c.shown)) || errno != api.OK || place != 0 {
			t.Errorf("%s: %v, %d, %d, want %s, %s", c.source, got, errno, place, c.text, c.shown)
		}
	}
}

// P6: why it goes wrong, and when: what comes later is not evaluated.
func TestWrongOutcomes(t *testing.T) {
	wantAllWrong(t, []goesWrong{
		{"x", api.WhyName, 1}, {"(x)", api.WhyName, 2}, {"(x (car 1))", api.WhyName, 2}, {"(+ 1 x)", api.WhyName, 4}, {"1 x 2", api.WhyName, 2}, {"(lambda () 1) y", api.WhyName, 2},
		{"(set! x 1)", api.WhyName, 2}, {"(set! x (car 1))", api.WhyType, 4}, {"(set! x y)", api.WhyName, 2}, {"(let ((y 1)) (set! x 1))", api.WhyName, 4}, {"(let ((x x)) 1)", api.WhyName, 2}, {"(let ((x 1) (y x)) 1)", api.WhyName, 3},
		{"(define x x)", api.WhyName, 2}, {"(define x (car 1))", api.WhyType, 4}, {"(define (f) (f2)) (f)", api.WhyName, 6},
		{"(1)", api.WhyCall, 2}, {"(1 2)", api.WhyCall, 3}, {"(#t)", api.WhyCall, 2}, {"('car 2)", api.WhyCall, 3}, {"('())", api.WhyCall, 2}, {"('(1) 2)", api.WhyCall, 3}, {"((list car) '(1))", api.WhyCall, 5}, {"(1 (car 1))", api.WhyType, 5}, {"(1 x)", api.WhyName, 3},
		{"((lambda (x) x))", api.WhyCount, 2}, {"((lambda () 1) 2)", api.WhyCount, 3}, {"((lambda (x y) x) 1)", api.WhyCount, 3}, {"((lambda (x y) x) 1 2 3)", api.WhyCount, 5}, {"((lambda (x) (car 1)))", api.WhyCount, 2},
		{"(if (car 1) 2 3)", api.WhyType, 4}, {"(if x 2 3)", api.WhyName, 2}, {"(and 1 x 2)", api.WhyName, 3}, {"(or #f x 2)", api.WhyName, 3}, {"(begin x 2)", api.WhyName, 2}, {"(begin 1 x)", api.WhyName, 3},
		{"((lambda () 1 x 2))", api.WhyName, 4}, {"(list 1 (car 1) x)", api.WhyType, 6},
	})
	wantWrong(t, rondo.New(), "(display 1) (begin (display 2) (car 1)) (display 3)", api.WhyType, 10, "1", "2")
}

// P6: all that display showed, in order, as it is shown.
func TestDisplay(t *testing.T) {
	m := rondo.New()
	wantValue(t, m, "(display 1)", "()", 3, "1")
	wantValue(t, m, "(list (display 1) (display '(a . b)))", "(() ())", 8, "1", "(a . b)")
	wantValue(t, m, "(display 'a) (display ''a) (display #f) (display '()) (display -5) 7", "7", 16, "a", "(quote a)", "#f", "()", "-5")
	wantValue(t, m, "(display display) (display (list car (lambda () 1)))", "()", 9, "#<procedure>", "(#<procedure> #<procedure>)")
	wantValue(t, m, "(define d display) (d (d 1))", "()", 7, "1", "()")
	wantValue(t, m, "5", "5", 1)
	wantWrong(t, m, "(display 1) (display)", api.WhyCount, 5, "1")
	wantWrong(t, m, "(display 1 2)", api.WhyCount, 4)
	wantWrong(t, m, "(display x)", api.WhyName, 3)
}

// P6: with less fuel than it takes there is none at all, whatever the form.
func TestEveryFuel(t *testing.T) {
	everyFuel(t, []comesTo{
		{"(begin (display 5) (+ 1 (* 2 3)))", "7", 11}, {"(define (f n) (if (= n 0) 'end (f (- n 1)))) (f 2)", "end", 33}, {"(let ((x 1) (y '(2))) (set! x (car y)) (and x (or #f x)))", "2", 12},
		{"((lambda (x) x x) 1)", "1", 5}, {"1 2 3", "3", 3}, {"(if #f 1)", "()", 2}, {"(and)", "#t", 1}, {"", "", 0},
	})
}

// everyFuel asks what each source comes to with just enough fuel, with more, and with each that is too little.
func everyFuel(t *testing.T, list []comesTo) {
	t.Helper()
	for _, c := range list {
		for fuel := range c.steps {
			got, errno, place := rondo.New().Eval(c.source, fuel)
			got.Shown = nil
			if !sameOutcome(got, api.Outcome{Kind: api.NoFuel, Steps: fuel}) || errno != api.OK || place != 0 {
				t.Errorf("Eval(%q, %d) = %v, %d, %d", c.source, fuel, got, errno, place)
			}
		}
		for _, fuel := range []int{c.steps, c.steps + 1, api.MaxFuel} {
			got, _, _ := rondo.New().Eval(c.source, fuel)
			got.Shown = nil
			if !sameOutcome(got, api.Outcome{Kind: api.Value, Text: c.text, Steps: c.steps}) {
				t.Errorf("Eval(%q, %d) = %v", c.source, fuel, got)
			}
		}
	}
}

// P6: what goes wrong with the last of the fuel goes wrong; with one less it has none.
func TestFuelAndWrong(t *testing.T) {
	for _, c := range []goesWrong{{"(display 1) (car 1)", api.WhyType, 6}, {"(display 1) (1)", api.WhyCall, 5}, {"(display 1) (set! x 2)", api.WhyName, 5}} {
		wantOutcome(t, rondo.New(), c.source, c.steps, api.Outcome{Kind: api.Wrong, Why: c.why, Steps: c.steps, Shown: []string{"1"}})
		wantOutcome(t, rondo.New(), c.source, c.steps-1, api.Outcome{Kind: api.NoFuel, Steps: c.steps - 1, Shown: []string{"1"}})
		wantOutcome(t, rondo.New(), c.source, 3, api.Outcome{Kind: api.NoFuel, Steps: 3, Shown: []string{"1"}})
		wantOutcome(t, rondo.New(), c.source, 2, api.Outcome{Kind: api.NoFuel, Steps: 2})
	}
}

// P6: fuel below 0 is none, above MaxFuel it is MaxFuel.
func TestFuelLimits(t *testing.T) {
	for _, fuel := range []int{0, -1, -20000, math.MinInt} {
		wantOutcome(t, rondo.New(), "1", fuel, api.Outcome{Kind: api.NoFuel})
		wantOutcome(t, rondo.New(), "(display 1)", fuel, api.Outcome{Kind: api.NoFuel})
		wantOutcome(t, rondo.New(), "", fuel, api.Outcome{Kind: api.Value})
		wantOutcome(t, rondo.New(), "; 1", fuel, api.Outcome{Kind: api.Value})
	}
	for _, loop := range []string{"(define (f) (f)) (f)", "(define (f) (+ 1 (f))) (f)", "(define (f) (begin 1 (f) 2)) (f)", "(define (f x) (f (cons x x))) (f 1)"} {
		for _, fuel := range []int{19999, 20000, 20001, math.MaxInt} {
			wantOutcome(t, rondo.New(), loop, fuel, api.Outcome{Kind: api.NoFuel, Steps: min(fuel, 20000)})
		}
	}
	// Each turn takes eleven steps, the last one six, the define two and the call three.
	count := "(define (f n) (if (= n 0) 'end (f (- n 1)))) "
	wantValue(t, rondo.New(), count+"1 1 (f 1817)", "end", 20000)
	wantOutcome(t, rondo.New(), count+"1 1 1 (f 1817)", math.MaxInt, api.Outcome{Kind: api.NoFuel, Steps: 20000})
}

// P6: MaxShow parts are shown, more are not, neither at the end nor by display.
func TestBigValues(t *testing.T) {
	m := rondo.New()
	wantValue(t, m, "(define (n k x) (if (< k 1) x (n (- k 1) (cons 1 x))))", "n", 2)
	wantValue(t, m, "(define (l k x) (if (< k 1) x (l (- k 1) (cons x 1))))", "l", 2)
	wantValue(t, m, "(define (d k x) (if (< k 1) x (d (- k 1) (cons x x))))", "d", 2)
	wantValue(t, m, "(n 149 '())", "("+strings.Repeat("1 ", 148)+"1)", 4+149*15+6)
	wantWrong(t, m, "(n 150 '())", api.WhyBig, 4+150*15+6)
	wantValue(t, m, "(n 149 2)", "("+strings.Repeat("1 ", 149)+". 2)", 4+149*15+6)
	wantWrong(t, m, "(n 150 2)", api.WhyBig, 4+150*15+6)
	wantValue(t, m, "(l 149 '())", strings.Repeat("(", 149)+"()"+strings.Repeat(" . 1)", 149), 4+149*15+6)
	wantWrong(t, m, "(l 150 '())", api.WhyBig, 4+150*15+6)
	wantWrong(t, m, "(l 1000 '())", api.WhyBig, 4+1000*15+6)
	wantValue(t, m, "(d 2 1)", "((1 . 1) 1 . 1)", 4+2*15+6)
	wantWrong(t, m, "(d 8 1)", api.WhyBig, 4+8*15+6)
	wantWrong(t, m, "(d 1000 1)", api.WhyBig, 4+1000*15+6)
	wantWrong(t, m, "(display 1) (display (d 8 1)) (display 2)", api.WhyBig, 3+6+8*15+6, "1")
	wantValue(t, m, "(d 1000 1) 5", "5", 4+1000*15+6+1)
	wantValue(t, m, "(define big (d 1000 1))", "big", 5+1000*15+6)
	wantValue(t, m, "(pair? (cdr (car big)))", "#t", 7)
	wantWrong(t, m, "big", api.WhyBig, 1)
	wantWrong(t, m, "(list 'a 'b big)", api.WhyBig, 5)
}

// P2: the list that comes out is new memory, its spare room too.
func TestShownIsNewMemory(t *testing.T) {
	m := rondo.New()
	source := "(display 1) (display 2) (display 3)"
	first, _, _ := m.Eval(source, api.MaxFuel)
	second, _, _ := m.Eval(source, api.MaxFuel)
	spoil := func(list []string) {
		whole := list[:cap(list)]
		for i := range whole {
			whole[i] = "own"
		}
	}
	spoil(first.Shown)
	if !slices.Equal(second.Shown, []string{"1", "2", "3"}) {
		t.Errorf("the second list was changed with the first: %q", second.Shown)
	}
	third, _, _ := m.Eval(source, api.MaxFuel)
	spoil(second.Shown)
	fourth, _, _ := m.Eval(source, api.MaxFuel)
	if !slices.Equal(third.Shown, []string{"1", "2", "3"}) || !slices.Equal(fourth.Shown, third.Shown) {
		t.Errorf("what was handed out is used again: %q, %q", third.Shown, fourth.Shown)
	}
	if none, _, _ := m.Eval("1", api.MaxFuel); len(none.Shown) != 0 {
		t.Errorf("shown by nothing: %q", none.Shown)
	}
}

// P2: a source that is changed behind a call's back has no part in what the machine keeps.
func TestNoSourceIsKept(t *testing.T) {
	m := rondo.New()
	source := []byte("(define name 'symbol) (define (f x) (set! name (list name x 'more)) name)")
	wantValue(t, m, unsafe.String(&source[0], len(source)), "f", 4)
	text, _, _ := rondo.Print(unsafe.String(&source[0], len(source)))
	for i := range source {
		source[i] = 'z'
	}
	wantValue(t, m, "name (f 5)", "(symbol 5 more)", 11)
	if !strings.HasPrefix(text, "(define name (quote symbol))\n") {
		t.Errorf("printed: %q", text)
	}
}

// P2: what counts is the machine's own past, not what others do meanwhile.
func TestMachinesSideBySide(t *testing.T) {
	a, b := rondo.New(), rondo.New()
	wantValue(t, a, "(define x 1) (define (get) x) (set! car cdr)", "()", 6)
	wantWrong(t, b, "x", api.WhyName, 1)
	wantValue(t, b, "(define x 2) (car '(1 2))", "1", 5)
	wantValue(t, a, "(car '(1 2))", "(2)", 3)
	wantValue(t, b, "(set! x 3) (display x)", "()", 5, "3")
	wantValue(t, a, "(display (get))", "()", 5, "1")
	var group sync.WaitGroup
	for i := range 8 {
		group.Go(func() {
			m, text := rondo.New(), strings.Repeat("1", i+1)
			for range 50 {
				wantValue(t, m, "(define x "+text+")", "x", 2)
				wantValue(t, m, "(display x) x", text, 4, text)
				wantWrong(t, m, "(display 'a) (y)", api.WhyName, 5, "a")
			}
		})
	}
	group.Wait()
}
