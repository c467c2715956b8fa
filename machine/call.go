package machine

import (
	"rondo/api"
	"rondo/basics"
	"rondo/data"
	"rondo/syntax"
)

// closure is what a lambda comes to: its body, and the scope where it stood.
type closure struct {
	data.Arity
	body []syntax.Form
	at   *scope
}

func newClosure(f syntax.Lambda, at *scope) *closure {
	return &closure{Arity: data.Arity{Least: f.Parameters, Most: f.Parameters}, body: f.Body, at: at}
}

// call calls the first of the values with the others.
func (r *run) call(values []data.Value) {
	if procedure, is := values[0].(data.Procedure); is {
		r.callWith(procedure, values[1:])
		return
	}
	r.fail(api.WhyCall)
}

func (r *run) callWith(procedure data.Procedure, arguments []data.Value) {
	if !procedure.Takes(len(arguments)) {
		r.fail(api.WhyCount)
		return
	}
	switch p := procedure.(type) {
	case *basics.Basic:
		r.callBasic(p, arguments)
	case *closure:
		r.body(p.body, &scope{slots: arguments, around: p.at})
	case *continuation:
		r.resume(p, arguments[0])
	}
}

func (r *run) callBasic(p *basics.Basic, arguments []data.Value) {
	value, why := p.Do(arguments...)
	if why != 0 {
		r.fail(why)
		return
	}
	r.give(value)
}
