package rondo_test

import (
	"slices"
	"strings"
	"testing"

	"rondo/api"
	"rondo/rondo"
)

// marked makes two sources of one: with the marked forms as they are, and with a shift that calls its k with each of them.
func marked(text string) (plain, shifted string) {
	plain = strings.NewReplacer("[", "", "]", "").Replace(text)
	return plain, strings.NewReplacer("[", "(shift kk (kk ", "]", "))").Replace(text)
}

// P9: within a reset (shift k (k a)) comes to what a comes to.
func TestShiftThatCallsItsK(t *testing.T) {
	calm := []string{
		"1", "#f", "'(a b)", "car", "v", "none", "(+ 1 2)", "(car 1)", "(1)", "((lambda (x) x))", "(begin (display v) (set! v 7) v)", "(let ((x v)) (list x x))", "(if v 1 2)", "(f 1)", "(lambda (x) (list x v))", "(k 5)", "(reset (cons 8 (shift j (j 9))))",
	}
	shifting := []string{
		"(shift j 5)", "(shift j (j 5))", "(shift j j)", "(shift j (list v (j v)))", "(shift j (k 1))", "(k (shift j (j 6)))", "(begin (shift j (set! k j)) 5)", "(f (shift j (display 1) (j 2)))",
	}
	contexts := []string{
		"[]", "(list 1 [] 2)", "(+ [] 1)", "([] 1 2)", "([] 1)", "(begin (display 0) [] (display v) v)", "(if [] 1 2)", "(let ((x [])) (list x v))", "(and 1 [] 2)", "(or [] 3)", "(set! v []) v", "(list v ((lambda (y) (list v [])) 1) v)", "(f [])", "(g (lambda () []))",
		"(cons 1 (reset (list 2 [])))", "(list 1 (shift i (i [])))", "(cons 1 (shift i (list [] (i 2))))", "(k [])", "(list (k 2) [] (k 3))", "1 2 []", "[] 3",
	}
	names := "(define v 4) (define (f x) (set! v (list x v)) (display x) x) (define (g t) (list (t) 'g)) (define k (reset (list 'k (shift k k)))) "
	for i, form := range slices.Concat(calm, shifting) {
		for _, context := range contexts {
			plain, shifted := marked(strings.Replace(context, "[]", "["+form+"]", 1))
			want, _, _ := rondo.New().Eval(names+"(reset "+plain+")", api.MaxFuel)
			got, errno, _ := rondo.New().Eval(names+"(reset "+shifted+")", api.MaxFuel)
			// A form that shifts nothing is evaluated once: shift, call, k, and the call of k are four steps.
			if more := got.Steps - want.Steps; i < len(calm) && want.Kind == api.Value && more != 4 {
				t.Errorf("(reset %s) takes %d steps more than (reset %s)", shifted, more, plain)
			}
			got.Steps = want.Steps
			if !sameOutcome(got, want) || errno != api.OK || want.Kind == 0 || want.Kind == api.NoFuel {
				t.Errorf("(reset %s): %+v, but (reset %s): %+v", shifted, got, plain, want)
			}
		}
	}
}

// P9: and so in drawn programs, where all is evaluated within resets.
func TestDrawnShiftsThatCallTheirK(t *testing.T) {
	g := maker{draw: drawFrom(11), marks: true}
	kinds := map[int]int{}
	for range 2500 {
		a, b := rondo.New(), rondo.New()
		for _, text := range g.resetRow() {
			plain, shifted := marked(text)
			// It may have become too long, or too deep.
			if _, errno, _ := rondo.Print(shifted); errno != api.OK {
				continue
			}
			want, _, _ := a.Eval(plain, api.MaxFuel)
			got, errno, _ := b.Eval(shifted, api.MaxFuel)
			if want.Kind == api.NoFuel || got.Kind == api.NoFuel {
				break
			}
			if shifted != plain {
				kinds[want.Kind]++
			}
			got.Steps = want.Steps
			if !sameOutcome(got, want) || errno != api.OK {
				t.Fatalf("Eval(%q): %+v, but Eval(%q): %+v", shifted, got, plain, want)
			}
		}
	}
	if kinds[api.Value] < 1000 || kinds[api.Wrong] < 1000 {
		t.Errorf("%d sources came to values, and %d went wrong: they test too little", kinds[api.Value], kinds[api.Wrong])
	}
}

// resetRow draws sources of which all but the defines themselves is evaluated within resets.
func (g maker) resetRow() []string {
	list := []string{g.prelude()}
	for range 3 {
		name := g.one("a b c k")
		list = append(list, "(define "+name+" (reset"+g.some(1, 2, 3)+"))", "(define ("+g.one("f g")+" a)"+g.some(1, 2, 3)+")", "(reset"+g.some(1, 2, 4)+")")
	}
	return list
}

// P9: with more fuel the same comes out, if it had enough; with one step less it has not.
func TestDrawnProgramsWithMoreFuel(t *testing.T) {
	g := maker{draw: drawFrom(13)}
	kinds := map[int]int{}
	for range 1500 {
		whole, just, more := rondo.New(), rondo.New(), rondo.New()
		var ahead []string
		for _, source := range []string{g.prelude(), g.source(), g.source(), "(k 1)"} {
			want, errno, place := whole.Eval(source, api.MaxFuel)
			if want.Kind == api.NoFuel {
				break
			}
			kinds[want.Kind]++
			for m, fuel := range map[*rondo.Machine]int{just: want.Steps, more: want.Steps + 1 + g.draw(50)} {
				if got, e, at := m.Eval(source, fuel); !sameOutcome(got, want) || e != errno || at != place {
					t.Fatalf("Eval(%q, %d) behind %q: %+v, with all fuel %+v", source, fuel, ahead, got, want)
				}
			}
			if want.Steps > 0 {
				wantNoFuel(t, ahead, source, want)
			}
			ahead = append(ahead, source)
		}
	}
	if kinds[api.Value] < 1000 || kinds[api.Wrong] < 1000 {
		t.Errorf("%d sources came to values, and %d went wrong: they test too little", kinds[api.Value], kinds[api.Wrong])
	}
}

// wantNoFuel evaluates a source, behind others, with one step less than it takes.
func wantNoFuel(t *testing.T, ahead []string, source string, whole api.Outcome) {
	t.Helper()
	m := rondo.New()
	for _, earlier := range ahead {
		m.Eval(earlier, api.MaxFuel)
	}
	fuel := whole.Steps - 1
	got, _, _ := m.Eval(source, fuel)
	if got.Kind != api.NoFuel || got.Steps != fuel || got.Text != "" || got.Why != 0 || len(got.Shown) > len(whole.Shown) || !slices.Equal(got.Shown, whole.Shown[:len(got.Shown)]) {
		t.Errorf("Eval(%q, %d) behind %q: %+v, with all fuel %+v", source, fuel, ahead, got, whole)
	}
}

// P9: forms that all come to values come to the same in several calls as in one.
func TestDrawnFormsInSeveralCalls(t *testing.T) {
	g := maker{draw: drawFrom(17)}
	compared := 0
	for range 5000 {
		one, several := rondo.New(), rondo.New()
		prelude := g.prelude()
		one.Eval(prelude, api.MaxFuel)
		several.Eval(prelude, api.MaxFuel)
		var forms []string
		sum := api.Outcome{Kind: api.Value}
		for range 2 + g.draw(3) {
			form := g.form(3)
			if g.draw(3) == 0 {
				form = g.define()
			}
			if len(strings.Join(forms, " ")+form) >= api.MaxSource {
				break
			}
			got, _, _ := several.Eval(form, api.MaxFuel)
			forms = append(forms, form)
			sum = api.Outcome{Kind: max(sum.Kind, got.Kind), Text: got.Text, Steps: sum.Steps + got.Steps, Shown: slices.Concat(sum.Shown, got.Shown)}
			if got.Kind != api.Value {
				break
			}
		}
		if sum.Kind != api.Value || sum.Steps > api.MaxFuel {
			continue
		}
		compared++
		wantOutcome(t, one, strings.Join(forms, " "), api.MaxFuel, sum)
		sameFromNowOn(t, one, several, forms)
		if t.Failed() {
			return
		}
	}
	if compared < 500 {
		t.Errorf("only %d rows of forms came to values: they test too little", compared)
	}
}

// sameFromNowOn asks two machines what all names stand for.
func sameFromNowOn(t *testing.T, one, several *rondo.Machine, forms []string) {
	t.Helper()
	for _, source := range []string{"a", "b", "c", "f", "g", "k", "(f 1)", "(g '(1 2))", "(k 1)", "(k 'a)", "(reset (list 1 (k 2)))", "(reset (f (shift k (k 1))))"} {
		want, _, _ := one.Eval(source, 500)
		if got, _, _ := several.Eval(source, 500); !sameOutcome(got, want) {
			t.Errorf("behind %q, %s is %+v in one call, %+v in several", forms, source, want, got)
		}
	}
}

// P9: the same of forms whose shifts, resets and calls of k stand apart.
func TestFormsInSeveralCalls(t *testing.T) {
	for _, forms := range [][]string{
		{"(define k 0)", "(reset (+ 1 (shift c (begin (set! k c) 0))))", "(k 10)"},
		{"(define k (reset (list 1 (shift k k) (shift k k))))", "(define j (k 2))", "(list (j 3) (j 4))", "((k 5) 6)"},
		{"(define n 0)", "(define k (reset (begin (shift k k) (set! n (+ n 1)) (display n) n)))", "(k 0)", "(k 0)", "(reset (+ n (k (shift j (j 0)))))", "n"},
		{"(define (yield x) (shift k (cons x k)))", "(define s (reset (yield 1) (yield 2) 'end))", "(display (car s))", "(set! s ((cdr s) 0))", "(display (car s))", "((cdr s) 0)"},
		{"(define l (reset (let ((x (shift k (list (k 1) (k 2))))) (lambda (y) (set! x (+ x y)) x))))", "((car l) 10)", "((car (cdr l)) 10)", "((car l) 10)"},
	} {
		one, several := rondo.New(), rondo.New()
		var sum api.Outcome
		for _, form := range forms {
			got, _, _ := several.Eval(form, api.MaxFuel)
			if got.Kind != api.Value {
				t.Errorf("%s: %+v", form, got)
			}
			sum = api.Outcome{Kind: api.Value, Text: got.Text, Steps: sum.Steps + got.Steps, Shown: append(sum.Shown, got.Shown...)}
		}
		wantOutcome(t, one, strings.Join(forms, " "), api.MaxFuel, sum)
		sameFromNowOn(t, one, several, forms)
	}
}
