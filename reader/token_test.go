package reader

import (
	"slices"
	"testing"
)

func allTokens(source string) []token {
	var found []token
	for at := 0; ; {
		next := nextToken(source, at)
		found = append(found, next)
		if next.kind == end {
			return found
		}
		at = next.place + len(next.text)
	}
}

func TestTokens(t *testing.T) {
	for source, want := range map[string][]token{
		"":         {{end, 0, ""}},
		" \n\t":    {{end, 3, ""}},
		"; a (":    {{end, 5, ""}},
		";a\nb":    {{word, 3, "b"}, {end, 4, ""}},
		"ab12":     {{word, 0, "ab12"}, {end, 4, ""}},
		"a.b":      {{word, 0, "a"}, {dot, 1, "."}, {word, 2, "b"}, {end, 3, ""}},
		"('a )":    {{open, 0, "("}, {quote, 1, "'"}, {word, 2, "a"}, {shut, 4, ")"}, {end, 5, ""}},
		"a;b":      {{word, 0, "a"}, {end, 3, ""}},
		"\r":       {{stray, 0, "\r"}, {end, 1, ""}},
		"a\"b":     {{word, 0, "a"}, {stray, 1, "\""}, {word, 2, "b"}, {end, 3, ""}},
		"\xc3\xa9": {{stray, 0, "\xc3"}, {stray, 1, "\xa9"}, {end, 2, ""}},
		signs:      {{word, 0, signs}, {end, 17, ""}},
		"azAZ09-1": {{word, 0, "azAZ09-1"}, {end, 8, ""}},
	} {
		if got := allTokens(source); !slices.Equal(got, want) {
			t.Errorf("tokens of %q: %v, want %v", source, got, want)
		}
	}
}
