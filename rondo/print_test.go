package rondo_test

import (
	"math"
	"strings"
	"sync"
	"testing"

	"rondo/api"
	"rondo/rondo"
)

func nested(open string, times int, inner, shut string) string {
	return strings.Repeat(open, times) + inner + strings.Repeat(shut, times)
}

func wantText(t *testing.T, source, want string) {
	t.Helper()
	text, errno, place := rondo.Print(source)
	if text != want || errno != api.OK || place != 0 {
		t.Errorf("Print(%.80q) = %q, %d, %d, want %q", source, text, errno, place, want)
	}
}

func wantRefusal(t *testing.T, source string, want api.Errno, at int) {
	t.Helper()
	text, errno, place := rondo.Print(source)
	if text != "" || errno != want || place != at {
		t.Errorf("Print(%.80q) = %q, %d, %d, want error %d at %d", source, text, errno, place, want, at)
	}
}

// P1: the error that is named first wins.
func TestFirstNamedErrorWins(t *testing.T) {
	wantRefusal(t, nested("(", 251, "", ")"), api.ErrLong, 0)
	wantRefusal(t, strings.Repeat("]", api.MaxSource+1), api.ErrLong, 0)
	wantRefusal(t, strings.Repeat("(", api.MaxSource), api.ErrText, api.MaxSource)
	wantRefusal(t, strings.Repeat("'", api.MaxSource), api.ErrText, api.MaxSource)
	wantRefusal(t, nested("(", 30, "", ")")+" ]", api.ErrText, 61)
	wantRefusal(t, "] "+nested("(", 30, "", ")"), api.ErrText, 0)
}

// P1: no call panics, whatever it is given.
func TestNoCallPanics(t *testing.T) {
	sources := []string{"", "\x00", "(", "'", ".", ";", "(a . ", "\xff\xfe", strings.Repeat("(", 500), strings.Repeat("'(", 100000), strings.Repeat("\xf0", 1<<20)}
	for _, source := range sources {
		rondo.Print(source)
		for _, fuel := range []int{math.MinInt, -1, 0, 1, api.MaxFuel, math.MaxInt} {
			rondo.New().Eval(source, fuel)
		}
	}
}

// P2: nothing but the argument counts: not what was printed ahead, nor what is printed meanwhile.
func TestPrintDependsOnItsArgument(t *testing.T) {
	var group sync.WaitGroup
	for range 8 {
		group.Go(func() {
			for range 50 {
				wantText(t, "'(a . (b c)) ; x", "(quote (a b c))\n")
				wantRefusal(t, "(a", api.ErrText, 2)
				wantRefusal(t, nested("(", 21, "", ")"), api.ErrDeep, 0)
				wantText(t, "()", "()\n")
				wantRefusal(t, strings.Repeat(" ", 501), api.ErrLong, 0)
				wantText(t, "", "")
			}
		})
	}
	group.Wait()
}

// P3: the length is counted in bytes, blanks and comments too.
func TestLongSources(t *testing.T) {
	wantText(t, strings.Repeat("a", 500), strings.Repeat("a", 500)+"\n")
	wantText(t, strings.Repeat(" ", 500), "")
	wantText(t, ";"+strings.Repeat("(", 499), "")
	wantRefusal(t, strings.Repeat("a", 501), api.ErrLong, 0)
	wantRefusal(t, strings.Repeat("\n", 501), api.ErrLong, 0)
	wantRefusal(t, ";"+strings.Repeat("a", 500), api.ErrLong, 0)
	wantRefusal(t, ";"+strings.Repeat("é", 250), api.ErrLong, 0)
	wantText(t, ";"+strings.Repeat("é", 249), "")
}

// P3: each byte alone, and each byte between two letters.
func TestEveryByte(t *testing.T) {
	const inWords = "abcdefghijklmnopqrstuvwxyzABCDEFGHIJKLMNOPQRSTUVWXYZ0123456789!$%&*/:<=>?^_~+-#"
	for i := range 256 {
		one := string([]byte{byte(i)})
		around := "a" + one + "b"
		switch {
		case one == "#":
			wantRefusal(t, one, api.ErrText, 0)
			wantText(t, around, around+"\n")
		case strings.Contains(inWords, one):
			wantText(t, one, one+"\n")
			wantText(t, around, around+"\n")
		case one == " " || one == "\n" || one == "\t":
			wantText(t, one, "")
			wantText(t, around, "a\nb\n")
		case one == ";":
			wantText(t, one, "")
			wantText(t, around, "a\n")
		case one == "'":
			wantRefusal(t, one, api.ErrText, 1)
			wantText(t, around, "a\n(quote b)\n")
		case one == "(":
			wantRefusal(t, one, api.ErrText, 1)
			wantRefusal(t, around, api.ErrText, 3)
		default:
			wantRefusal(t, one, api.ErrText, 0)
			wantRefusal(t, around, api.ErrText, 1)
		}
	}
}

// P3: words that are neither number, truth nor symbol, at the place where they begin.
func TestWordsThatMayNotStand(t *testing.T) {
	for _, word := range []string{
		"1a", "12x", "1-", "1+1", "-1-", "-1a", "-0x1", "0x1F", "1_000", "1e3", "0b1", "1#t", "-1x",
		"#", "##", "#true", "#false", "#T", "#F", "#t#f", "#tt", "#1", "#-1",
		"9223372036854775808", "-9223372036854775809", "18446744073709551615", "99999999999999999999999999",
	} {
		wantRefusal(t, word, api.ErrText, 0)
		wantRefusal(t, "a\n  "+word+" b", api.ErrText, 4)
		wantRefusal(t, "(a '"+word, api.ErrText, 4)
		wantRefusal(t, "(a . "+word+" b)", api.ErrText, 5)
		wantRefusal(t, "("+word+"]", api.ErrText, 1)
	}
}

// P3: the first token that may not stand is named, not a later one.
func TestPlacesOfBadTokens(t *testing.T) {
	for source, at := range map[string]int{
		")": 0, " )": 1, "a)": 1, "())": 2, "(a))": 3, "')": 1, "'a)": 2, "(')": 2, "('a))": 4,
		".": 0, "a . b": 2, "(.": 1, "(. a)": 1, "(.)": 1, "'.": 1, "('.": 2, "(a '. b)": 4, "(a . . b)": 5,
		"(a . )": 5, "(a .)": 4, "(a . b c)": 7, "(a . b . c)": 7, "(a . b 'c)": 7, "(a . b (c))": 7,
		"(a . b]": 6, "(a . ') )": 6, "(a . 'b c)": 8, "(a . (b) c)": 9, "(a . (b . ))": 10, "((a . b) . c d)": 13,
		"]": 0, "(a] )": 2, "a , b": 2, "`a": 0, "\"a\"": 0, "a\r\nb": 1, "(a\\b)": 2, "@": 0, "a|b": 1, "{}": 0,
		"1.5": 1, "a.b": 1, "...": 0, "(1.5.6)": 4, "] )": 0, ") 1a": 0, "1a )": 0,
	} {
		wantRefusal(t, source, api.ErrText, at)
	}
}

// P3: where more must come at the end, the place is the length, behind blanks and comments.
func TestTextsThatEndTooEarly(t *testing.T) {
	for _, source := range []string{
		"(", "((", "(a", "(a ", "(a\n\t", "(a ; b", "(a ;)", "(a ; b\n", "(a (b)", "(()",
		"(a .", "(a . ", "(a . b", "(a . b ", "(a . ;x\n", "(a . (b)", "(a . (b . c)",
		"'", "' ", "''", "a '", "('", "(a . '", "(a . 'b", "' ; a", "'(", "'(a . b",
	} {
		wantRefusal(t, source, api.ErrText, len(source))
	}
}

// P3: lists may stand 20 deep; a quote is one of them, as is a list behind a dot.
func TestDeepSources(t *testing.T) {
	quotes := func(times int) string { return strings.Repeat("'", times) }
	for deep, source := range map[string]string{
		"lists":        nested("(", 20, "", ")"),
		"around a":     nested("(", 20, "a", ")"),
		"quotes":       quotes(20) + "a",
		"quotes, list": quotes(19) + "()",
		"both":         nested("('", 10, "a", ")"),
		"behind":       nested("(a . ", 20, "a", ")"),
		"second":       nested("(a ", 20, "a", ")"),
		"later":        nested("(", 20, "", ")") + " " + nested("(", 20, "", ")") + quotes(20) + "a",
		"neighbours":   "(" + strings.Repeat("'a ", 30) + strings.Repeat("(b) ", 30) + " . 'c)",
		"comment":      nested("(", 20, ";((('''\n", ")"),
	} {
		if _, errno, place := rondo.Print(source); errno != api.OK || place != 0 {
			t.Errorf("%s: Print(%q): error %d at %d", deep, source, errno, place)
		}
	}
	for _, source := range []string{
		nested("(", 21, "", ")"), nested("(", 21, "a", ")"), nested("(", 250, "", ")"),
		quotes(21) + "a", quotes(20) + "()", quotes(20) + "'a", quotes(499) + "a",
		nested("('", 10, "()", ")"), nested("('", 10, "'a", ")"), nested("'(", 10, "'a", ")"),
		nested("(a . ", 21, "a", ")"), nested("(a . ", 20, "'a", ")"), nested("(a . ", 20, "()", ")"),
		nested("(a ", 21, "a", ")"), "a (b " + nested("(", 20, "", ")") + ") c",
	} {
		wantRefusal(t, source, api.ErrDeep, 0)
	}
	wantRefusal(t, nested("(", 30, "", ")")+")", api.ErrText, 60)
	wantRefusal(t, nested("(", 30, "]", ")"), api.ErrText, 30)
	wantRefusal(t, quotes(30)+")", api.ErrText, 30)
}

// P4: numbers, at the ends of 64 bits too, without a sign or noughts that say nothing.
func TestNumbers(t *testing.T) {
	noughts := strings.Repeat("0", 400)
	for source, want := range map[string]string{
		"0": "0\n", "-0": "0\n", "000": "0\n", "-000": "0\n", "007": "7\n", "-007": "-7\n", "10": "10\n",
		"9223372036854775807":               "9223372036854775807\n",
		"-9223372036854775807":              "-9223372036854775807\n",
		"-9223372036854775808":              "-9223372036854775808\n",
		noughts + "9223372036854775807":     "9223372036854775807\n",
		"-" + noughts + "1":                 "-1\n",
		"(1 -2 . 3)":                        "(1 -2 . 3)\n",
		"1(2)3'4":                           "1\n(2)\n3\n(quote 4)\n",
		"(1.5)":                             "(1 . 5)\n",
		"-" + noughts + noughts[:80] + " 1": "0\n1\n",
	} {
		wantText(t, source, want)
	}
	wantRefusal(t, noughts+"9223372036854775808", api.ErrText, 0)
	wantRefusal(t, "-"+noughts+"9223372036854775809", api.ErrText, 0)
}

// P4: symbols are shown as they are written.
func TestSymbols(t *testing.T) {
	for _, word := range []string{"a", "A", "aA1", "-", "+", "--", "-a", "--1", "+1", "-+1", "a#t", "a-1", "t", "set!", "quote", "lambda", "*", "<=", "_", "~", "$1", "!#", "-#t"} {
		wantText(t, word, word+"\n")
		wantText(t, " "+word+" ;"+word, word+"\n")
		wantText(t, "("+word+" . "+word+")", "("+word+" . "+word+")\n")
	}
}

// P4: each datum in its one form, a line each.
func TestDataInTheirOneForm(t *testing.T) {
	for source, want := range map[string]string{
		"": "", " \t\n": "", "; a": "", ";\n;\n": "", "a ;x\n b;y": "a\nb\n",
		"#t #f": "#t\n#f\n", "(#t . #f)": "(#t . #f)\n",
		"()": "()\n", "( \n\t )": "()\n", "(;)\n)": "()\n", "() ()": "()\n()\n", "(()())": "(() ())\n",
		"(a b)": "(a b)\n", "( a\tb\n)": "(a b)\n", "(a(b)c)": "(a (b) c)\n", "((a)b)": "((a) b)\n",
		"(a . b)": "(a . b)\n", "(a.b)": "(a . b)\n", "(a b . c)": "(a b . c)\n", "(a . #t)": "(a . #t)\n",
		"(a . ())": "(a)\n", "(a . (b))": "(a b)\n", "(a . (b . c))": "(a b . c)\n", "(a . (b . (c . ())))": "(a b c)\n",
		"(() . ())": "(())\n", "((a . b) . (c . d))": "((a . b) c . d)\n", "(a ;x\n . ;y\n b ;z\n )": "(a . b)\n",
	} {
		wantText(t, source, want)
	}
}

// P4: a quote is the list of the symbol quote and its datum, wherever it stands.
func TestQuotes(t *testing.T) {
	for source, want := range map[string]string{
		"'a": "(quote a)\n", "' a": "(quote a)\n", "';x\na": "(quote a)\n", "'1": "(quote 1)\n", "'#f": "(quote #f)\n",
		"'()": "(quote ())\n", "''a": "(quote (quote a))\n", "'''()": "(quote (quote (quote ())))\n",
		"'(a 'b)": "(quote (a (quote b)))\n", "('a'b)": "((quote a) (quote b))\n", "a'b": "a\n(quote b)\n",
		"'(a . (b c)) ; x": "(quote (a b c))\n", "(quote a)": "(quote a)\n", "(quote . (a))": "(quote a)\n",
		"(a . 'b)": "(a quote b)\n", "(a . ''b)": "(a quote (quote b))\n", "('a . 'b)": "((quote a) quote b)\n",
		"(a . '(b . c))": "(a quote (b . c))\n", "'(a . 'b)": "(quote (a quote b))\n",
	} {
		wantText(t, source, want)
	}
}

// P4: MaxShow is no limit here.
func TestManyParts(t *testing.T) {
	wantText(t, "("+strings.Repeat("()", 249)+")", "("+strings.Repeat("() ", 248)+"())\n")
	wantText(t, strings.Repeat("a ", 250), strings.Repeat("a\n", 250))
	wantText(t, "("+strings.Repeat("'a", 249)+")", "("+strings.Repeat("(quote a) ", 248)+"(quote a))\n")
}
