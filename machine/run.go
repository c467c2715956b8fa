package machine

import (
	"rondo/api"
	"rondo/data"
	"rondo/syntax"
)

// task is one thing that is to be done with a value, and those that are to be
// done behind it. Its function is told the run, and keeps none: what is to be
// done may outlive the run it was met in.
type task struct {
	do   func(r *run, value data.Value)
	next *task
}

// scope has what names stand for, in the slots that were worked out for them.
type scope struct {
	slots  []data.Value
	around *scope
}

// run is one evaluation under way. Either a form is to be evaluated at a
// scope, or it is nil, and there is a value to go on with.
type run struct {
	machine *Machine
	fuel    int
	steps   int
	form    syntax.Form
	at      *scope
	value   data.Value
	todo    *task   // up to the innermost reset
	beyond  *beyond // nil where no reset is around
	kind    int     // Wrong or NoFuel, once it cannot go on
	why     int
}

// all comes to the last form's value as it is shown.
func (r *run) all(forms []syntax.Form) api.Outcome {
	text := ""
	for i, form := range forms {
		if !r.whole(form) {
			return api.Outcome{Kind: r.kind, Why: r.why}
		}
		if i < len(forms)-1 {
			continue
		}
		shown, ok := data.Show(r.value)
		if !ok {
			return api.Outcome{Kind: api.Wrong, Why: api.WhyBig}
		}
		text = shown
	}
	return api.Outcome{Kind: api.Value, Text: text}
}

// whole evaluates a form, and says whether it came to a value. It goes round
// in a loop, and what waits is kept in lists: a program may call deeper than
// Go's own calls go.
func (r *run) whole(form syntax.Form) bool {
	r.evaluate(form, nil)
	for r.kind == 0 {
		switch {
		case r.form != nil:
			if r.step() {
				r.start(r.form, r.at)
			}
		case r.todo != nil:
			first := r.todo
			r.todo = first.next
			first.do(r, r.value)
		case r.beyond != nil:
			r.leave()
		default:
			return true
		}
	}
	return false
}

// step takes a step, and says whether there was fuel for it.
func (r *run) step() bool {
	if r.steps == r.fuel {
		r.kind = api.NoFuel
		return false
	}
	r.steps++
	return true
}

// evaluate, give and fail say how the run goes on; each start of a form and
// each task ends in one of them, or for want of fuel.

func (r *run) evaluate(form syntax.Form, at *scope) {
	r.form, r.at = form, at
}

func (r *run) give(value data.Value) {
	r.form, r.value = nil, value
}

func (r *run) fail(why int) {
	r.kind, r.why = api.Wrong, why
}

// then lays a task ahead of all that is to be done.
func (r *run) then(do func(r *run, value data.Value)) {
	r.todo = &task{do: do, next: r.todo}
}

// find answers where the value of a name lies; nil, if it stands for nothing.
func (r *run) find(name syntax.Name, at *scope) *data.Value {
	if !name.Local {
		return r.machine.defined[name.Symbol]
	}
	for range name.Up {
		at = at.around
	}
	return &at.slots[name.Slot]
}
