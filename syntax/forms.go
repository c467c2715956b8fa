// Package syntax: makes forms of data, and works out where their names stand.
package syntax

import "rondo/data"

// Form is one of the structs of this file, or nil where there is none.
type Form any

// Constant comes to a value that needs no evaluation.
type Constant struct {
	Value data.Value
}

// Name comes to what it stands for. A local one stands in a slot of the scope
// that is Up scopes further out; any other among what is defined, by its
// symbol, because it may be defined later than it is read.
type Name struct {
	Symbol   data.Symbol
	Local    bool
	Up, Slot int
}

// If has nil as Else, if it says nothing for that case.
type If struct {
	Test, Then, Else Form
}

// Lambda has its parameters in the slots of its body's scope.
type Lambda struct {
	Parameters int
	Body       []Form
}

type Begin struct {
	Body []Form
}

// Let has its values in the slots of its body's scope.
type Let struct {
	Values, Body []Form
}

type Set struct {
	Name  Name
	Value Form
}

// Until goes on up to the first form whose value is as true as Stop says, or
// to the last: an and stops at what is false, an or at what is true.
type Until struct {
	Stop  bool
	Forms []Form
}

type Reset struct {
	Body []Form
}

// Shift has its procedure in the one slot of its body's scope.
type Shift struct {
	Body []Form
}

type Define struct {
	Symbol data.Symbol
	Value  Form
}

// Call has what is called first, and the arguments behind it.
type Call struct {
	Parts []Form
}
