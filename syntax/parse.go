package syntax

import (
	"rondo/api"
	"rondo/data"
	"rondo/reader"
)

// rule makes a form of a list that begins with a keyword and ends as lists do.
type rule func(p *parser, d reader.Datum) Form

type parser struct {
	scopes
	rules  map[data.Symbol]rule // by keyword
	faults []reader.Datum       // the data that are no forms, from the left
}

// Parse makes the forms of a source, or answers the place of the first datum
// that is none.
func Parse(source []reader.Datum) ([]Form, api.Errno, int) {
	p := &parser{scopes: scopes{slots: map[spot]int{}}, rules: keywords()}
	forms := make([]Form, len(source))
	for i, d := range source {
		forms[i] = p.formOfSource(d)
	}
	if len(p.faults) > 0 {
		return nil, api.ErrForm, p.faults[0].Place
	}
	return forms, api.OK, 0
}

func keywords() map[data.Symbol]rule {
	return map[data.Symbol]rule{
		"quote":  (*parser).quote,
		"if":     (*parser).choice,
		"lambda": (*parser).lambda,
		"begin":  (*parser).begin,
		"let":    (*parser).let,
		"set!":   (*parser).set,
		"and":    (*parser).and,
		"or":     (*parser).or,
		"reset":  (*parser).reset,
		"shift":  (*parser).shift,
		// Where it may stand, formOfSource has seen to it.
		"define": (*parser).refuse,
	}
}

// refuse notes a datum that is no form. The search goes on behind it, outer
// data ahead of inner ones and the left ahead of the right, so that the first
// fault stays the one to tell.
func (p *parser) refuse(d reader.Datum) Form {
	p.faults = append(p.faults, d)
	return nil
}

func (p *parser) formOfSource(d reader.Datum) Form {
	if len(d.Parts) > 0 && d.IsList() {
		if word, _ := d.Parts[0].Symbol(); word == "define" {
			return p.define(d)
		}
	}
	return p.form(d)
}

func (p *parser) form(d reader.Datum) Form {
	if len(d.Parts) == 0 {
		return p.atom(d)
	}
	if !d.IsList() {
		return p.refuse(d)
	}
	word, _ := d.Parts[0].Symbol()
	if build := p.rules[word]; build != nil {
		return build(p, d)
	}
	return Call{Parts: p.forms(d.Parts)}
}

func (p *parser) forms(list []reader.Datum) []Form {
	forms := make([]Form, len(list))
	for i, d := range list {
		forms[i] = p.form(d)
	}
	return forms
}

// formsWithin makes forms in a scope of their own that has these names.
func (p *parser) formsWithin(names []data.Symbol, list []reader.Datum) []Form {
	p.enter(names)
	defer p.leave(names)
	return p.forms(list)
}

func (p *parser) atom(d reader.Datum) Form {
	switch value := d.End.(type) {
	case data.Number, data.Truth:
		return Constant{Value: value}
	case data.Symbol:
		if p.rules[value] == nil {
			return p.find(value)
		}
	}
	return p.refuse(d)
}
