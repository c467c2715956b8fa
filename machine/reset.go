package machine

import (
	"rondo/api"
	"rondo/data"
	"rondo/syntax"
)

// beyond is what is to be done with the value of a reset, and what lies beyond
// the reset around that one.
type beyond struct {
	todo *task
	next *beyond
}

// continuation is what a shift took away: what would have been done with its
// value, up to the reset around it. No task is ever changed, so the list can
// be shared by all that go on with it.
type continuation struct {
	data.Arity
	todo *task
}

func newContinuation(todo *task) *continuation {
	return &continuation{Arity: data.Arity{Least: 1, Most: 1}, todo: todo}
}

// enter begins a reset that does these tasks: all others wait beyond it.
func (r *run) enter(todo *task) {
	r.beyond = &beyond{todo: r.todo, next: r.beyond}
	r.todo = todo
}

// leave ends the innermost reset, where nothing is left to be done in it.
func (r *run) leave() {
	r.todo, r.beyond = r.beyond.todo, r.beyond.next
}

func (r *run) reset(f syntax.Reset, at *scope) {
	r.enter(nil)
	r.body(f.Body, at)
}

func (r *run) shift(f syntax.Shift, at *scope) {
	if r.beyond == nil {
		r.fail(api.WhyReset)
		return
	}
	taken := newContinuation(r.todo)
	r.todo = nil
	r.body(f.Body, &scope{slots: []data.Value{taken}, around: at})
}

// resume calls what was taken away. It takes a step of its own: such calls can
// make others beyond number without evaluating a form.
func (r *run) resume(taken *continuation, value data.Value) {
	if r.step() {
		r.enter(taken.todo)
		r.give(value)
	}
}
