package machine

import (
	"rondo/api"
	"rondo/data"
	"rondo/syntax"
)

// task is one thing that is to be done with a value, and those that are to be
// done behind it. Its function is told the run, and keeps none: what is to be
// done may outlive the run it was met in.
type task struct {
	do   func(r *run, value data.Value)
	next *task
}

// scope has what names stand for, in the slots that were worked out for them.
type scope struct {
	slots  []data.Value
	around *scope
}

// run is one evaluation under way. Either a form is to be evaluated at a
// scope, or it is nil, and there is a value to go on with.
type run struct {
	machine *Machine
	fuel    int
	steps   int
	form    syntax.Form
	at      *scope
	value   data.Value
	why     int // the reason, if it went wrong
	todo    *task
}

// all comes to the last form's value as it is shown.
func (r *run) all(forms []syntax.Form) api.Outcome {
	text := ""
	for i, form := range forms {
		kind := r.whole(form)
		if kind != api.Value {
			return api.Outcome{Kind: kind, Why: r.why}
		}
		if i < len(forms)-1 {
			continue
		}
		shown, ok := data.Show(r.value)
		if !ok {
			return api.Outcome{Kind: api.Wrong, Why: api.WhyBig}
		}
		text = shown
	}
	return api.Outcome{Kind: api.Value, Text: text}
}

// whole evaluates a form up to its value. It goes round in a loop, and what
// waits is kept in a list: a program may call deeper than Go's own calls go.
func (r *run) whole(form syntax.Form) int {
	r.evaluate(form, nil)
	for r.why == 0 {
		switch {
		case r.form != nil && r.steps == r.fuel:
			return api.NoFuel
		case r.form != nil:
			r.steps++
			r.start(r.form, r.at)
		case r.todo != nil:
			first := r.todo
			r.todo = first.next
			first.do(r, r.value)
		default:
			return api.Value
		}
	}
	return api.Wrong
}

// evaluate, give and fail say how the run goes on; each start of a form and
// each task ends in one of them.

func (r *run) evaluate(form syntax.Form, at *scope) {
	r.form, r.at = form, at
}

func (r *run) give(value data.Value) {
	r.form, r.value = nil, value
}

func (r *run) fail(why int) {
	r.why = why
}

// then lays a task ahead of all that is to be done.
func (r *run) then(do func(r *run, value data.Value)) {
	r.todo = &task{do: do, next: r.todo}
}

// find answers where the value of a name lies; nil, if it stands for nothing.
func (r *run) find(name syntax.Name, at *scope) *data.Value {
	if !name.Local {
		return r.machine.defined[name.Symbol]
	}
	for range name.Up {
		at = at.around
	}
	return &at.slots[name.Slot]
}
