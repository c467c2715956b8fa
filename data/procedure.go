package data

// Procedure is a value that can be called.
type Procedure interface {
	Value
	// Takes says whether it can be called with so many arguments.
	Takes(count int) bool
}

// Arity is how many arguments a procedure takes, at least and at most. A
// struct that it is laid into is a procedure, and is shown as all of them are.
type Arity struct {
	Least, Most int
}

func (a Arity) Takes(count int) bool {
	return a.Least <= count && count <= a.Most
}

func (Arity) AppendShown(text []byte) []byte {
	return append(text, "#<procedure>"...)
}
