package rondo_test

import (
	"strings"
	"testing"

	"rondo/api"
	"rondo/rondo"
)

// holdAgainstReference evaluates a source on both, and says what came of it.
func holdAgainstReference(t *testing.T, m *rondo.Machine, r *reference, source string, fuel int) (api.Outcome, api.Errno) {
	t.Helper()
	got, errno, place := m.Eval(source, fuel)
	var want api.Outcome
	_, wantErrno, wantPlace := rondo.Print(source)
	if wantErrno == api.OK {
		want, wantErrno, wantPlace = r.eval(source, fuel)
	}
	if !sameOutcome(got, want) || errno != wantErrno || place != wantPlace {
		t.Errorf("Eval(%q, %d) = %+v, %d, %d, the reference says %+v, %d, %d", source, fuel, got, errno, place, want, wantErrno, wantPlace)
	}
	return got, errno
}

// maker draws programs that mostly go well for a while.
type maker struct {
	draw  func(below int) int
	marks bool // whether it sets brackets around some forms, which no source has
}

func (g maker) one(words string) string {
	list := strings.Fields(words)
	return list[g.draw(len(list))]
}

func (g maker) name() string { return g.one("a b c f g k") }

func (g maker) some(least, most, deep int) string {
	text := ""
	for range least + g.draw(most-least+1) {
		text += " " + g.form(deep)
	}
	return text
}

func (g maker) atom() string {
	switch g.draw(8) {
	case 0:
		return g.one("#t #f")
	case 1:
		return g.one("'a 'if '() '(1) '(a.b) '(1'b(2)) ''a '(()) '#f '-1")
	case 2:
		return g.one("+ - car cons list < display not eq? null? procedure?")
	case 3, 4:
		return g.name()
	}
	return g.number()
}

func (g maker) number() string {
	if g.draw(4) == 0 {
		return g.one("9223372036854775807 -9223372036854775808 4294967296 -1 0")
	}
	return g.one("0 1 2 3 -7 10")
}

func (g maker) form(deep int) string {
	if g.marks && g.draw(6) == 0 {
		return "[" + g.bareForm(deep) + "]"
	}
	return g.bareForm(deep)
}

func (g maker) bareForm(deep int) string {
	if deep == 0 {
		return g.atom()
	}
	deep--
	if g.draw(4) == 0 {
		return g.delimited(deep)
	}
	switch g.draw(20) {
	case 0:
		return "(if" + g.some(2, 3, deep) + ")"
	case 1:
		return "(if (" + g.one("< = null? pair? not") + g.some(1, 2, deep) + ")" + g.some(1, 2, deep) + ")"
	case 2:
		return "(lambda (" + g.one("a f") + ")" + g.some(1, 2, deep) + ")"
	case 3:
		return "((lambda (" + g.one("a f") + " b)" + g.some(1, 2, deep) + ")" + g.some(2, 2, deep) + ")"
	case 4:
		return "(begin" + g.some(1, 3, deep) + ")"
	case 5, 6:
		return "(let ((" + g.one("a c") + " " + g.form(deep) + ") (" + g.one("b f") + " " + g.form(deep) + "))" + g.some(1, 2, deep) + ")"
	case 7, 8:
		return "(set! " + g.name() + " " + g.form(deep) + ")"
	case 9:
		return "(" + g.one("and or") + g.some(0, 3, deep) + ")"
	case 10:
		return "(display " + g.form(deep) + ")"
	case 11:
		return "(" + g.one("+ * - < > =") + g.some(0, 3, deep) + ")"
	case 12:
		return "(" + g.one("+ * - quotient remainder") + " " + g.number() + " " + g.number() + ")"
	case 13:
		return "(" + g.one("quotient remainder cons eq?") + g.some(2, 2, min(deep, 1)) + ")"
	case 14:
		return "(" + g.one("car cdr null? pair? number? symbol? procedure? boolean? not") + g.some(1, 1, deep) + ")"
	case 15:
		return "(list" + g.some(0, 3, deep) + ")"
	case 16, 17:
		return "(" + g.one("f g") + g.some(1, 1, deep) + ")"
	case 18:
		return "(" + g.some(1, 3, deep) + ")"
	}
	return g.atom()
}

// delimited draws a form that has to do with resets and shifts.
func (g maker) delimited(deep int) string {
	switch g.draw(7) {
	case 0:
		return "(reset" + g.some(1, 2, deep) + ")"
	case 1:
		return "(reset (" + g.one("list + cons begin and or g") + g.some(0, 1, deep) + " " + g.shift(deep) + g.some(0, 1, deep) + "))"
	case 2:
		return g.shift(deep)
	case 3:
		return "(set! " + g.name() + " k)"
	case 4:
		return "(k)"
	}
	return "(k " + g.form(deep) + ")"
}

func (g maker) shift(deep int) string {
	switch g.draw(4) {
	case 0:
		return "(shift k (list (k " + g.form(min(deep, 1)) + ") (k " + g.form(min(deep, 1)) + ")))"
	case 1:
		return "(shift c (set! k c)" + g.some(1, 1, deep) + ")"
	}
	return "(shift " + g.one("k k a f") + g.some(1, 2, deep) + ")"
}

func (g maker) define() string {
	switch g.draw(5) {
	case 4:
		return "(define k (reset" + g.some(1, 2, 3) + "))"
	case 0:
		return "(define " + g.name() + " " + g.form(2) + ")"
	case 1:
		return "(define (f a)" + g.some(1, 2, 3) + ")"
	case 2:
		return "(define (g " + g.one("a b f") + ")" + g.some(1, 2, 3) + ")"
	}
	return "(define " + g.name() + " " + g.one("1 2 '(1(2)) 'a car list") + ")"
}

// prelude lets each name stand for something, most often.
func (g maker) prelude() string {
	text := ""
	for _, name := range []string{"a", "b", "c"} {
		text += "(define " + name + " " + g.one("1 2 -3 '(1(2)) 'a #f car list") + ") "
	}
	return text + "(define (f a)" + g.some(1, 2, 2) + ") (define (g " + g.one("a b") + ")" + g.some(1, 2, 2) + ") (define k (reset (" + g.one("+ list begin cons") + " 1 (shift k k))))"
}

// source draws a source that is short enough, and spoils a token of some.
func (g maker) source() string {
	text := ""
	for range 1 + g.draw(4) {
		next := g.form(1 + g.draw(4))
		if g.draw(2) == 0 {
			next = g.define()
		}
		if len(text)+len(next) < api.MaxSource {
			text += next + " "
		}
	}
	if tokens := strings.Fields(strings.NewReplacer("(", " ( ", ")", " ) ", "'", " ' ").Replace(text)); len(tokens) > 0 && g.draw(6) == 0 {
		tokens[g.draw(len(tokens))] = g.one("if define ( ) . ' a 1 quote let lambda set! shift reset")
		text = strings.Join(tokens, " ")
	}
	return text
}

// P1, P5 to P8: rows of sources on one machine, held against the reference.
func TestDrawnPrograms(t *testing.T) {
	g := maker{draw: drawFrom(7)}
	kinds, reasons, errors, resumed := map[int]int{}, map[int]int{}, map[api.Errno]int{}, 0
	for range 6000 {
		m, r := rondo.New(), newReference()
		if g.draw(4) > 0 {
			holdAgainstReference(t, m, r, g.prelude(), 2000)
		}
		for range 4 {
			source := g.source()
			fuel := []int{g.draw(40), 40 + g.draw(400), 2000}[g.draw(3)]
			got, errno := holdAgainstReference(t, m, r, source, fuel)
			kinds[got.Kind]++
			reasons[got.Why]++
			errors[errno]++
		}
		resumed += min(r.resumed, 1)
		if t.Failed() {
			return
		}
	}
	for _, kind := range []int{api.Value, api.Wrong, api.NoFuel} {
		if kinds[kind] < 300 {
			t.Errorf("only %d programs were of kind %d: they test too little", kinds[kind], kind)
		}
	}
	for _, why := range []int{api.WhyName, api.WhyType, api.WhyCount, api.WhyCall, api.WhyOver, api.WhyZero, api.WhyReset} {
		if reasons[why] < 20 {
			t.Errorf("only %d programs went wrong for reason %d: they test too little", reasons[why], why)
		}
	}
	if errors[api.ErrForm] < 400 || resumed < 400 {
		t.Errorf("only %d sources had no forms, and only %d rows called what a shift made: they test too little", errors[api.ErrForm], resumed)
	}
}

// P5: all rows of up to five tokens that are of use in making forms.
func TestAllShortForms(t *testing.T) {
	words := []string{"x", "1", "(", ")", ".", "'", "if", "lambda", "let", "set!", "define", "quote", "begin", "shift", "and"}
	m, r := rondo.New(), newReference()
	for tokens := range rows(words, 5) {
		source := strings.Join(tokens, " ")
		if _, errno, _ := rondo.Print(source); errno == api.OK {
			holdAgainstReference(t, m, r, source, 0)
		}
	}
}

// P5: keywords with parts of all kinds, most of which make no form.
func TestDrawnForms(t *testing.T) {
	g := maker{draw: drawFrom(3)}
	var datum func(deep int) string
	datum = func(deep int) string {
		if deep == 0 || g.draw(5) == 0 {
			return g.one("x y z 1 () (x) (x.y) ((x.(1))) ((x'y)) #t if 'x '() (x(y)) ((x1)) ((x()))")
		}
		text := "(" + g.one("x if if lambda lambda let let set! set! define define quote begin shift reset and or")
		for range g.draw(5) {
			text += " " + datum(deep-1)
		}
		if g.draw(8) == 0 {
			text += " . " + datum(deep-1)
		}
		return text + ")"
	}
	// Without fuel nothing changes: one machine serves for all.
	m, r := rondo.New(), newReference()
	refused, taken := 0, 0
	for range 40000 {
		source := datum(3) + " " + datum(2)
		if len(source) > api.MaxSource {
			continue
		}
		if _, errno := holdAgainstReference(t, m, r, source, 0); errno == api.OK {
			taken++
		} else {
			refused++
		}
		if t.Failed() {
			return
		}
	}
	if refused < 10000 || taken < 500 {
		t.Errorf("%d sources were refused and %d taken: they test too little", refused, taken)
	}
}

// FuzzEval is run on its seeds by go test, and on without end by go test -fuzz.
func FuzzEval(f *testing.F) {
	for _, seed := range []string{
		"", "(+ 1 (* 2 3))", "(define (f n) (if (= n 0) 1 (* n (f (- n 1))))) (f 30)", "(let ((x '(1 . 2))) (set! x (cdr x)) (display x))",
		"((lambda (f) (f f)) (lambda (f) (f f)))", "(and 1 (or #f 'a)) (list car - 7)", "(+ 1 ())", "(define (d x) (d (cons x x))) (d 1)",
		"(+ 1 (reset (* 2 (shift k (k (k 5))))))", "(define k 0) (reset (list 1 (shift c (set! k c) (c 2)) (shift c (c 3)))) (k (k 4))", "(reset (let ((x (shift k (list (k 1) (k 2))))) (set! x (+ x (shift j j))) x))",
	} {
		f.Add(seed, 100)
	}
	f.Fuzz(func(t *testing.T, source string, fuel int) {
		holdAgainstReference(t, rondo.New(), newReference(), source, fuel)
	})
}
