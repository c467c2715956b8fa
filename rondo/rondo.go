// Package rondo: reads and runs programs: see DOC.md.
package rondo

import (
	"rondo/api"
	"rondo/machine"
	"rondo/reader"
	"rondo/syntax"
)

// Machine has names and what they stand for.
type Machine struct {
	inner *machine.Machine
}

// Print writes the data of a source in their one form (P3, P4).
func Print(source string) (string, api.Errno, int) {
	list, errno, place := reader.Read(source)
	if errno != api.OK {
		return "", errno, place
	}
	var text []byte
	for _, datum := range list {
		text = datum.Value().AppendShown(text)
		text = append(text, '\n')
	}
	return string(text), api.OK, 0
}

// New makes a machine (P5).
func New() *Machine {
	return &Machine{inner: machine.New()}
}

// Eval evaluates the forms of a source (P5 to P9).
func (m *Machine) Eval(source string, fuel int) (api.Outcome, api.Errno, int) {
	list, errno, place := reader.Read(source)
	if errno != api.OK {
		return api.Outcome{}, errno, place
	}
	forms, errno, place := syntax.Parse(list)
	if errno != api.OK {
		return api.Outcome{}, errno, place
	}
	return m.inner.Run(forms, fuel), api.OK, 0
}
