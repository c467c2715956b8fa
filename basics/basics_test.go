package basics

import (
	"strings"
	"testing"

	"rondo/api"
	"rondo/data"
)

func TestAllHaveTheirNamesAndCounts(t *testing.T) {
	text := ""
	for _, basic := range All(func(string) {}) {
		text += string(basic.Name)
		for count := range 4 {
			if basic.Takes(count) {
				text += " " + string(rune('0'+count))
			}
		}
		if basic.Takes(250) {
			text += " on"
		}
		text += ","
	}
	want := "+ 0 1 2 3 on,* 0 1 2 3 on,- 1 2 3 on,quotient 2,remainder 2,< 1 2 3 on,> 1 2 3 on,= 1 2 3 on,cons 2,car 1,cdr 1,list 0 1 2 3 on,pair? 1,null? 1,number? 1,symbol? 1,procedure? 1,boolean? 1,eq? 2,not 1,display 1,"
	if text != want {
		t.Errorf("there are %s\nwant %s", text, want)
	}
}

func TestWrongTypes(t *testing.T) {
	others := []data.Value{data.Truth(true), data.Symbol("a"), data.Empty{}, &data.Pair{Head: data.Number(1), Tail: data.Empty{}}, named("car")}
	for _, name := range strings.Fields("+ * - quotient remainder < > =") {
		for _, other := range others {
			for _, arguments := range [][]data.Value{{other, data.Number(0)}, {data.Number(1), other}} {
				if value, why := named(data.Symbol(name)).Do(arguments...); value != nil || why != api.WhyType {
					t.Errorf("%s of %v: %v, %d", name, arguments, value, why)
				}
			}
		}
	}
	for _, name := range []data.Symbol{"car", "cdr"} {
		for _, other := range []data.Value{data.Number(1), data.Truth(false), data.Symbol("a"), data.Empty{}, named("car")} {
			if value, why := named(name).Do(other); value != nil || why != api.WhyType {
				t.Errorf("%s of %v: %v, %d", name, other, value, why)
			}
		}
	}
}

func TestDisplayShowsWhatIsNotTooBig(t *testing.T) {
	var shown []string
	show := func(text string) { shown = append(shown, text) }
	display := display(show)
	var big data.Value = data.Empty{}
	for range 150 {
		big = &data.Pair{Head: data.Number(1), Tail: big}
	}
	if value, why := display(big); value != nil || why != api.WhyBig {
		t.Errorf("display of a big list: %v, %d", value, why)
	}
	if value, why := display(big.(*data.Pair).Tail); value != (data.Empty{}) || why != 0 {
		t.Errorf("display: %v, %d", value, why)
	}
	if len(shown) != 1 || shown[0] != "("+strings.Repeat("1 ", 148)+"1)" {
		t.Errorf("shown: %q", shown)
	}
}
