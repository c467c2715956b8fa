package machine

import (
	"slices"

	"rondo/api"
	"rondo/data"
	"rondo/syntax"
)

func (r *run) start(form syntax.Form, at *scope) {
	switch f := form.(type) {
	case syntax.Constant:
		r.give(f.Value)
	case syntax.Name:
		r.look(f, at)
	case syntax.If:
		r.choose(f, at)
	case syntax.Lambda:
		r.give(newClosure(f, at))
	case syntax.Begin:
		r.body(f.Body, at)
	case syntax.Let:
		r.let(f, at)
	case syntax.Set:
		r.set(f, at)
	case syntax.Until:
		r.until(f.Stop, f.Forms, at)
	case syntax.Reset:
		r.reset(f, at)
	case syntax.Shift:
		r.shift(f, at)
	case syntax.Define:
		r.define(f, at)
	case syntax.Call:
		r.each(f.Parts, at, nil, (*run).call)
	}
}

func (r *run) look(name syntax.Name, at *scope) {
	place := r.find(name, at)
	if place == nil {
		r.fail(api.WhyName)
		return
	}
	r.give(*place)
}

func (r *run) choose(f syntax.If, at *scope) {
	r.then(func(r *run, value data.Value) {
		switch {
		case data.IsTrue(value):
			r.evaluate(f.Then, at)
		case f.Else != nil:
			r.evaluate(f.Else, at)
		default:
			r.give(data.Empty{})
		}
	})
	r.evaluate(f.Test, at)
}

// body leaves nothing to be done behind its last form, so that a procedure
// that calls itself there does not pile up.
func (r *run) body(forms []syntax.Form, at *scope) {
	if len(forms) > 1 {
		r.then(func(r *run, _ data.Value) { r.body(forms[1:], at) })
	}
	r.evaluate(forms[0], at)
}

func (r *run) until(stop bool, forms []syntax.Form, at *scope) {
	if len(forms) > 1 {
		r.then(func(r *run, value data.Value) {
			if data.IsTrue(value) == stop {
				r.give(value)
				return
			}
			r.until(stop, forms[1:], at)
		})
	}
	r.evaluate(forms[0], at)
}

func (r *run) let(f syntax.Let, at *scope) {
	r.each(f.Values, at, nil, func(r *run, values []data.Value) {
		r.body(f.Body, &scope{slots: values, around: at})
	})
}

func (r *run) set(f syntax.Set, at *scope) {
	r.then(func(r *run, value data.Value) {
		place := r.find(f.Name, at)
		if place == nil {
			r.fail(api.WhyName)
			return
		}
		*place = value
		r.give(data.Empty{})
	})
	r.evaluate(f.Value, at)
}

func (r *run) define(f syntax.Define, at *scope) {
	r.then(func(r *run, value data.Value) {
		r.machine.define(f.Symbol, value)
		r.give(f.Symbol)
	})
	r.evaluate(f.Value, at)
}

// each evaluates forms in turn, and hands their values on when it has all.
func (r *run) each(forms []syntax.Form, at *scope, values []data.Value, handOn func(r *run, values []data.Value)) {
	if len(forms) == 0 {
		handOn(r, values)
		return
	}
	r.then(func(r *run, value data.Value) {
		// Clipped, so that the values are copied: this may be done again with
		// another value, and what came of the first time keeps its own.
		r.each(forms[1:], at, append(slices.Clip(values), value), handOn)
	})
	r.evaluate(forms[0], at)
}
