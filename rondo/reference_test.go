package rondo_test

import (
	"math/big"
	"slices"
	"strconv"
	"strings"

	"rondo/api"
)

// The reference is a second evaluator, made as unlike the program as can be:
// it walks pairs by calling itself, looks names up when it meets them, counts
// with numbers of any length, and panics where an evaluation ends early. It
// keeps no list of what is to be done: a shift goes back to its reset through
// all that called it, and each of them lays down what it would have done.

type cell struct {
	place      int
	sort       sort
	number     *big.Int
	text       string // of a symbol or a truth; the name of a procedure that is there
	head, tail *cell
	parameters []string // of a lambda
	body       []*cell
	around     *bound
	taken      func(value *cell) done // of what a shift made
}

type sort int

const (
	aNumber sort = iota
	aTruth
	aSymbol
	anEmptyList
	aPair
	aBasic
	aLambda
	aTaken
)

// bound is one name and what it stands for, and all names around it.
type bound struct {
	name   string
	value  *cell
	around *bound
}

// ending is what an evaluation panics with that comes to no value.
type ending struct{ kind, why int }

func wrong(why int) { panic(ending{api.Wrong, why}) }

// done is what an evaluation came to: a value, or a shift on its way to its
// reset, with what would be done with its value as far as it has come.
type done struct {
	value *cell
	shift func(k *cell) done
	rest  func(value *cell) done
}

func itself(value *cell) done { return done{value: value} }

func (d done) then(next func(value *cell) done) done {
	if d.shift == nil {
		return next(d.value)
	}
	return done{shift: d.shift, rest: func(value *cell) done { return d.rest(value).then(next) }}
}

// within is what an evaluation comes to in a reset.
func within(d done) done {
	for d.shift != nil {
		rest := d.rest
		d = d.shift(&cell{sort: aTaken, taken: func(value *cell) done { return within(rest(value)) }})
	}
	return d
}

func truth(is bool) *cell {
	return &cell{sort: aTruth, text: map[bool]string{true: "#t", false: "#f"}[is]}
}

func emptyList() *cell { return &cell{sort: anEmptyList} }

func isFalse(c *cell) bool { return c.sort == aTruth && c.text == "#f" }

// cells reads a source that Print takes.
func cells(source string) []*cell {
	r := &cellReader{source: source}
	var list []*cell
	for r.skip(); r.at < len(source); r.skip() {
		list = append(list, r.next())
	}
	return list
}

type cellReader struct {
	source string
	at     int
}

func (r *cellReader) skip() {
	for r.at < len(r.source) && strings.IndexByte(" \n\t;", r.source[r.at]) >= 0 {
		if r.source[r.at] == ';' {
			line, _, _ := strings.Cut(r.source[r.at:], "\n")
			r.at += len(line)
			continue
		}
		r.at++
	}
}

func (r *cellReader) next() *cell {
	r.skip()
	place := r.at
	switch r.source[r.at] {
	case '(':
		r.at++
		return r.rest(place)
	case '\'':
		r.at++
		mark := &cell{place: place, sort: aSymbol, text: "quote"}
		return &cell{place: place, sort: aPair, head: mark, tail: &cell{sort: aPair, head: r.next(), tail: emptyList()}}
	}
	for r.at < len(r.source) && strings.IndexByte(" \n\t;().'", r.source[r.at]) < 0 {
		r.at++
	}
	word := r.source[place:r.at]
	if number, ok := new(big.Int).SetString(word, 10); ok && word[0] != '+' {
		return &cell{place: place, sort: aNumber, number: number}
	}
	if word == "#t" || word == "#f" {
		return &cell{place: place, sort: aTruth, text: word}
	}
	return &cell{place: place, sort: aSymbol, text: word}
}

// rest reads what is left of a list, up to its bracket.
func (r *cellReader) rest(place int) *cell {
	r.skip()
	switch r.source[r.at] {
	case ')':
		r.at++
		return &cell{place: place, sort: anEmptyList}
	case '.':
		r.at++
		last := r.next()
		r.skip()
		r.at++
		return last
	}
	head := r.next()
	return &cell{place: place, sort: aPair, head: head, tail: r.rest(-1)}
}

// items answers what a list has, and whether it ends in the empty list.
func items(c *cell) (list []*cell, proper bool) {
	for ; c.sort == aPair; c = c.tail {
		list = append(list, c.head)
	}
	return list, c.sort == anEmptyList
}

const keywordText = " quote if lambda begin let set! and or reset shift define "

func isKeyword(c *cell) bool {
	return c.sort == aSymbol && strings.Contains(keywordText, " "+c.text+" ")
}

func areNames(list ...*cell) bool {
	var seen []string
	for _, c := range list {
		if c.sort != aSymbol || isKeyword(c) || slices.Contains(seen, c.text) {
			return false
		}
		seen = append(seen, c.text)
	}
	return true
}

// faults gathers the places of all data that stand where a form must and are none.
func faults(c *cell, defineMay bool) []int {
	inner, ok := mustBeForms(c, defineMay)
	if !ok {
		return []int{c.place}
	}
	var places []int
	for _, form := range inner {
		places = append(places, faults(form, false)...)
	}
	return places
}

// mustBeForms answers what must be forms for c to be one, unless it is none anyhow.
func mustBeForms(c *cell, defineMay bool) ([]*cell, bool) {
	list, proper := items(c)
	switch {
	case c.sort == anEmptyList || isKeyword(c) || !proper && c.sort == aPair:
		return nil, false
	case c.sort != aPair:
		return nil, true
	case !isKeyword(list[0]):
		return list, true
	}
	n, parts := len(list), list[1:]
	switch list[0].text {
	case "quote":
		return nil, n == 2
	case "if":
		return parts, n == 3 || n == 4
	case "and", "or":
		return parts, true
	case "begin", "reset":
		return parts, n > 1
	case "set!":
		return parts[min(1, len(parts)):], n == 3 && areNames(parts[0])
	case "shift":
		return parts[min(1, len(parts)):], n >= 3 && areNames(parts[0])
	case "let":
		return letForms(parts)
	case "lambda":
		if n < 3 {
			return nil, false
		}
		names, ok := items(parts[0])
		return parts[1:], ok && areNames(names...)
	}
	if !defineMay || n < 3 {
		return nil, false
	}
	if parts[0].sort == aPair {
		names, ok := items(parts[0])
		return parts[1:], ok && areNames(names[0]) && areNames(names[1:]...)
	}
	return parts[1:], n == 3 && areNames(parts[0])
}

func letForms(parts []*cell) ([]*cell, bool) {
	if len(parts) < 2 {
		return nil, false
	}
	bindings, ok := items(parts[0])
	var names, forms []*cell
	for _, binding := range bindings {
		two, proper := items(binding)
		if len(two) != 2 || !proper {
			return nil, false
		}
		names, forms = append(names, two[0]), append(forms, two[1])
	}
	return append(forms, parts[1:]...), ok && areNames(names...)
}

type reference struct {
	defined     map[string]*cell
	steps, fuel int
	shown       []string
	resumed     int // how often what a shift made was called
}

func newReference() *reference {
	r := &reference{defined: map[string]*cell{}}
	for _, name := range strings.Fields("+ * - quotient remainder < > = cons car cdr list pair? null? number? symbol? procedure? boolean? eq? not display") {
		r.defined[name] = &cell{sort: aBasic, text: name}
	}
	return r
}

// eval answers for a source that Print takes.
func (r *reference) eval(source string, fuel int) (outcome api.Outcome, errno api.Errno, place int) {
	list := cells(source)
	var places []int
	for _, c := range list {
		places = append(places, faults(c, true)...)
	}
	if len(places) > 0 {
		return api.Outcome{}, api.ErrForm, slices.Min(places)
	}
	r.steps, r.fuel, r.shown = 0, min(max(fuel, 0), 20000), nil
	defer func() {
		if end, ok := recover().(ending); ok {
			outcome = api.Outcome{Kind: end.kind, Why: end.why}
		}
		outcome.Steps, outcome.Shown = r.steps, r.shown
	}()
	text := ""
	for i, c := range list {
		came := r.value(c, nil)
		if came.shift != nil {
			wrong(api.WhyReset)
		}
		if i == len(list)-1 {
			text = shownCell(came.value)
		}
	}
	return api.Outcome{Kind: api.Value, Text: text}, api.OK, 0
}

func (r *reference) step() {
	if r.steps == r.fuel {
		panic(ending{kind: api.NoFuel})
	}
	r.steps++
}

func (r *reference) value(c *cell, names *bound) done {
	r.step()
	if c.sort == aSymbol {
		return itself(*r.place(c.text, names))
	}
	if c.sort != aPair {
		return itself(c)
	}
	list, _ := items(c)
	if isKeyword(list[0]) {
		return r.keyword(list[0].text, list[1:], names)
	}
	return r.values(list, names, nil, func(values []*cell) done { return r.call(values[0], values[1:]) })
}

func (r *reference) place(name string, names *bound) **cell {
	for ; names != nil; names = names.around {
		if names.name == name {
			return &names.value
		}
	}
	value, known := r.defined[name]
	if !known {
		wrong(api.WhyName)
	}
	return &value
}

func (r *reference) values(list []*cell, names *bound, ahead []*cell, next func(values []*cell) done) done {
	if len(list) == 0 {
		return next(ahead)
	}
	return r.value(list[0], names).then(func(value *cell) done {
		return r.values(list[1:], names, slices.Concat(ahead, []*cell{value}), next)
	})
}

// last evaluates all and answers the last one's value.
func (r *reference) last(list []*cell, names *bound) done {
	return r.values(list, names, nil, func(values []*cell) done { return itself(values[len(values)-1]) })
}

func (r *reference) keyword(word string, parts []*cell, names *bound) done {
	switch word {
	case "quote":
		return itself(parts[0])
	case "if":
		return r.value(parts[0], names).then(func(value *cell) done {
			if !isFalse(value) {
				return r.value(parts[1], names)
			}
			if len(parts) == 3 {
				return r.value(parts[2], names)
			}
			return itself(emptyList())
		})
	case "lambda":
		return itself(lambdaCell(parts[0], parts[1:], names))
	case "begin":
		return r.last(parts, names)
	case "reset":
		return within(r.last(parts, names))
	case "shift":
		return done{
			shift: func(k *cell) done { return r.last(parts[1:], &bound{parts[0].text, k, names}) },
			rest:  itself,
		}
	case "and", "or":
		return r.firstThat(word == "or", truth(word == "and"), parts, names)
	case "let":
		return r.let(parts, names)
	case "set!":
		return r.value(parts[1], names).then(func(value *cell) done {
			r.set(parts[0].text, value, names)
			return itself(emptyList())
		})
	}
	return r.define(parts)
}

// firstThat goes on until a value is as true as it is told.
func (r *reference) firstThat(is bool, value *cell, parts []*cell, names *bound) done {
	if len(parts) == 0 {
		return itself(value)
	}
	return r.value(parts[0], names).then(func(value *cell) done {
		if isFalse(value) != is {
			return itself(value)
		}
		return r.firstThat(is, value, parts[1:], names)
	})
}

func lambdaCell(parameters *cell, body []*cell, names *bound) *cell {
	list, _ := items(parameters)
	made := &cell{sort: aLambda, body: body, around: names}
	for _, parameter := range list {
		made.parameters = append(made.parameters, parameter.text)
	}
	return made
}

func (r *reference) let(parts []*cell, names *bound) done {
	bindings, _ := items(parts[0])
	var forms []*cell
	for _, binding := range bindings {
		forms = append(forms, binding.tail.head)
	}
	return r.values(forms, names, nil, func(values []*cell) done {
		inner := names
		for i, binding := range bindings {
			inner = &bound{binding.head.text, values[i], inner}
		}
		return r.last(parts[1:], inner)
	})
}

func (r *reference) set(name string, value *cell, names *bound) {
	for ; names != nil; names = names.around {
		if names.name == name {
			names.value = value
			return
		}
	}
	if r.defined[name] == nil {
		wrong(api.WhyName)
	}
	r.defined[name] = value
}

func (r *reference) define(parts []*cell) done {
	name := parts[0]
	if name.sort == aPair {
		r.step()
		r.defined[name.head.text] = lambdaCell(name.tail, parts[1:], nil)
		return itself(name.head)
	}
	return r.value(parts[1], nil).then(func(value *cell) done {
		r.defined[name.text] = value
		return itself(name)
	})
}

func (r *reference) call(procedure *cell, arguments []*cell) done {
	switch procedure.sort {
	case aBasic:
		return itself(r.basic(procedure.text, arguments))
	case aLambda:
		if len(arguments) != len(procedure.parameters) {
			wrong(api.WhyCount)
		}
		names := procedure.around
		for i, parameter := range procedure.parameters {
			names = &bound{parameter, arguments[i], names}
		}
		return r.last(procedure.body, names)
	case aTaken:
		if len(arguments) != 1 {
			wrong(api.WhyCount)
		}
		r.step()
		r.resumed++
		return procedure.taken(arguments[0])
	}
	wrong(api.WhyCall)
	return done{}
}

// counts says how many arguments a procedure takes; a sign behind it: or more.
const counts = " +:0+ *:0+ -:1+ quotient:2 remainder:2 <:1+ >:1+ =:1+ cons:2 car:1 cdr:1 list:0+ pair?:1 null?:1 number?:1 symbol?:1 procedure?:1 boolean?:1 eq?:2 not:1 display:1 "

func (r *reference) basic(name string, arguments []*cell) *cell {
	_, rest, _ := strings.Cut(counts, " "+name+":")
	least, _ := strconv.Atoi(rest[:1])
	if len(arguments) < least || rest[1] != '+' && len(arguments) > least {
		wrong(api.WhyCount)
	}
	if strings.Contains(" + * - quotient remainder < > = ", " "+name+" ") {
		for _, argument := range arguments {
			if argument.sort != aNumber {
				wrong(api.WhyType)
			}
		}
		return reckoned(name, arguments)
	}
	switch name {
	case "cons":
		return &cell{sort: aPair, head: arguments[0], tail: arguments[1]}
	case "car", "cdr":
		if arguments[0].sort != aPair {
			wrong(api.WhyType)
		}
		return map[string]*cell{"car": arguments[0].head, "cdr": arguments[0].tail}[name]
	case "list":
		made := emptyList()
		for _, argument := range slices.Backward(arguments) {
			made = &cell{sort: aPair, head: argument, tail: made}
		}
		return made
	case "eq?":
		a, b := arguments[0], arguments[1]
		return truth(a.sort == b.sort && a.sort <= anEmptyList && shownCell(a) == shownCell(b))
	case "not":
		return truth(isFalse(arguments[0]))
	case "display":
		r.shown = append(r.shown, shownCell(arguments[0]))
		return emptyList()
	}
	asked := map[sort]string{aNumber: "number?", aTruth: "boolean?", aSymbol: "symbol?", anEmptyList: "null?", aPair: "pair?", aBasic: "procedure?", aLambda: "procedure?", aTaken: "procedure?"}
	return truth(asked[arguments[0].sort] == name)
}

func reckoned(name string, arguments []*cell) *cell {
	if strings.Contains("<>=", name) {
		holds := true
		for i := range len(arguments) - 1 {
			order := arguments[i].number.Cmp(arguments[i+1].number)
			holds = holds && order == map[string]int{"<": -1, ">": 1, "=": 0}[name]
		}
		return truth(holds)
	}
	if name == "quotient" || name == "remainder" {
		if arguments[1].number.Sign() == 0 {
			wrong(api.WhyZero)
		}
		quotient, remainder := new(big.Int).QuoRem(arguments[0].number, arguments[1].number, new(big.Int))
		within64(quotient)
		return &cell{sort: aNumber, number: map[string]*big.Int{"quotient": quotient, "remainder": remainder}[name]}
	}
	total := big.NewInt(map[string]int64{"*": 1}[name])
	if name == "-" && len(arguments) > 1 {
		total.Set(arguments[0].number)
		arguments = arguments[1:]
	}
	for _, argument := range arguments {
		join := map[string]func(x, y *big.Int) *big.Int{"+": total.Add, "-": total.Sub, "*": total.Mul}[name]
		within64(join(total, argument.number))
	}
	return &cell{sort: aNumber, number: total}
}

func within64(number *big.Int) {
	if !number.IsInt64() {
		wrong(api.WhyOver)
	}
}

// partsOf counts no further than to beyond MaxShow.
func partsOf(c *cell, most int) int {
	if c.sort != aPair || most <= 0 {
		return 1
	}
	head := partsOf(c.head, most-1)
	return 1 + head + partsOf(c.tail, most-1-head)
}

func shownCell(c *cell) string {
	if partsOf(c, 300) > 300 {
		wrong(api.WhyBig)
	}
	switch c.sort {
	case aNumber:
		return c.number.String()
	case anEmptyList:
		return "()"
	case aBasic, aLambda, aTaken:
		return "#<procedure>"
	case aPair:
		text := "(" + shownCell(c.head)
		for c = c.tail; c.sort == aPair; c = c.tail {
			text += " " + shownCell(c.head)
		}
		if c.sort != anEmptyList {
			text += " . " + shownCell(c)
		}
		return text + ")"
	}
	return c.text
}
