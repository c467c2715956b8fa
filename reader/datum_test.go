package reader

import (
	"strconv"
	"strings"
	"testing"

	"rondo/api"
	"rondo/data"
)

// mapped writes a datum with the places of all its parts.
func mapped(d Datum) string {
	text := strconv.Itoa(d.Place) + ":"
	if len(d.Parts) == 0 {
		return text + string(d.End.AppendShown(nil))
	}
	var parts []string
	for _, part := range d.Parts {
		parts = append(parts, mapped(part))
	}
	return text + "[" + strings.Join(parts, " ") + "|" + string(d.End.AppendShown(nil)) + "]"
}

func TestPlacesOfData(t *testing.T) {
	for source, want := range map[string]string{
		" a":             "1:a",
		"()":             "0:()",
		"( )":            "0:()",
		"(a 1)":          "0:[1:a 3:1|()]",
		"( a (b) () )":   "0:[2:a 4:[5:b|()] 8:()|()]",
		"(a . b)":        "0:[1:a|b]",
		"(a . (b c))":    "0:[1:a 6:b 8:c|()]",
		"(a . (b . c))":  "0:[1:a 6:b|c]",
		"(a . ())":       "0:[1:a|()]",
		"'a":             "0:[0:quote 1:a|()]",
		"' ;x\n a":       "0:[0:quote 6:a|()]",
		"(a 'b)":         "0:[1:a 3:[3:quote 4:b|()]|()]",
		"(a . 'b)":       "0:[1:a 5:quote 6:b|()]",
		"(quote a)":      "0:[1:quote 7:a|()]",
		"''()":           "0:[0:quote 1:[1:quote 2:()|()]|()]",
		"(a . (b . 'c))": "0:[1:a 6:b 10:quote 11:c|()]",
	} {
		list, errno, place := Read(source)
		if errno != api.OK || place != 0 || len(list) != 1 || mapped(list[0]) != want {
			t.Errorf("Read(%q) = %v, %d, %d, want %s", source, list, errno, place, want)
		}
	}
}

func TestWhatADatumIs(t *testing.T) {
	for _, c := range []struct {
		source, symbol string
		isList         bool
	}{
		{"a", "a", false}, {"1", "", false}, {"#t", "", false}, {"()", "", true}, {"(a)", "", true}, {"(a . b)", "", false}, {"(a . ())", "", true}, {"'a", "", true}, {"(1 . a)", "", false},
	} {
		list, _, _ := Read(c.source)
		symbol, is := list[0].Symbol()
		if symbol != data.Symbol(c.symbol) || is != (c.symbol != "") || list[0].IsList() != c.isList {
			t.Errorf("%s: symbol %q, %v, list %v", c.source, symbol, is, list[0].IsList())
		}
	}
}
