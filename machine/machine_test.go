package machine

import (
	"slices"
	"testing"

	"rondo/api"
	"rondo/data"
	"rondo/syntax"
)

func constants(count int) []syntax.Form {
	forms := make([]syntax.Form, count)
	for i := range forms {
		forms[i] = syntax.Constant{Value: data.Number(i)}
	}
	return forms
}

// What is to be done can be done again: the values of the first time stay as
// they are when another one is laid behind those ahead of it.
func TestTasksCanBeDoneAgain(t *testing.T) {
	for count := 1; count < 12; count++ {
		for again := range count {
			var got [][]data.Value
			r := &run{machine: New(), fuel: 100}
			r.each(constants(count), nil, nil, func(_ *run, values []data.Value) { got = append(got, values) })
			var kept *task
			for i := range count {
				if i == again {
					kept = r.todo
				}
				doFirst(r, data.Number(i))
			}
			r.todo = kept
			for i := again; i < count; i++ {
				doFirst(r, data.Number(100+i))
			}
			if len(got) != 2 {
				t.Fatalf("handed on %d times", len(got))
			}
			for i := range count {
				second := data.Number(i)
				if i >= again {
					second += 100
				}
				if got[0][i] != data.Number(i) || got[1][i] != second {
					t.Errorf("of %d, again from %d: %v, %v", count, again, got[0], got[1])
				}
			}
		}
	}
}

func doFirst(r *run, value data.Value) {
	first := r.todo
	r.todo = first.next
	first.do(r, value)
}

// A run's tasks know the run they are done in, not the one they were met in.
func TestTasksBelongToNoRun(t *testing.T) {
	first, second := &run{machine: New(), fuel: 9}, &run{machine: New(), fuel: 9}
	first.start(syntax.Define{Symbol: "x", Value: syntax.Constant{Value: data.Number(1)}}, nil)
	second.todo = first.todo
	doFirst(second, data.Number(5))
	if first.machine.defined["x"] != nil || second.machine.defined["x"] == nil || second.value != data.Symbol("x") {
		t.Errorf("defined in the first: %v, in the second: %v", first.machine.defined["x"], second.machine.defined["x"])
	}
}

// What was shown is given away, not kept.
func TestNothingShownIsKept(t *testing.T) {
	m := New()
	display := syntax.Call{Parts: []syntax.Form{syntax.Name{Symbol: "display"}, syntax.Constant{Value: data.Number(1)}}}
	for range 2 {
		outcome := m.Run([]syntax.Form{display}, 10)
		if !slices.Equal(outcome.Shown, []string{"1"}) || outcome.Kind != api.Value || m.shown != nil {
			t.Errorf("%+v, kept %q", outcome, m.shown)
		}
	}
}
