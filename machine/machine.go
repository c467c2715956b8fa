// Package machine: evaluates forms.
package machine

import (
	"rondo/api"
	"rondo/basics"
	"rondo/data"
	"rondo/syntax"
)

// Machine has what is defined, and what the evaluation under way has shown.
type Machine struct {
	defined map[data.Symbol]*data.Value
	shown   []string
}

// New makes a machine where the procedures that are there stand for themselves.
func New() *Machine {
	m := &Machine{defined: map[data.Symbol]*data.Value{}}
	for _, basic := range basics.All(m.show) {
		m.define(basic.Name, basic)
	}
	return m
}

func (m *Machine) define(name data.Symbol, value data.Value) {
	m.defined[name] = &value
}

func (m *Machine) show(text string) {
	m.shown = append(m.shown, text)
}

// Run evaluates the forms of a source in turn.
func (m *Machine) Run(forms []syntax.Form, fuel int) api.Outcome {
	r := &run{machine: m, fuel: min(max(fuel, 0), api.MaxFuel)}
	outcome := r.all(forms)
	outcome.Steps = r.steps
	// Given away whole, so that nothing of it is kept or used again.
	outcome.Shown, m.shown = m.shown, nil
	return outcome
}
