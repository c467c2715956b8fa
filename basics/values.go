package basics

import (
	"rondo/api"
	"rondo/data"
)

func cons(arguments ...data.Value) (data.Value, int) {
	return &data.Pair{Head: arguments[0], Tail: arguments[1]}, 0
}

// ofPair makes a function of one whose argument must be a pair.
func ofPair(do func(pair *data.Pair) data.Value) Function {
	return func(arguments ...data.Value) (data.Value, int) {
		pair, is := arguments[0].(*data.Pair)
		if !is {
			return nil, api.WhyType
		}
		return do(pair), 0
	}
}

func head(pair *data.Pair) data.Value { return pair.Head }

func tail(pair *data.Pair) data.Value { return pair.Tail }

func list(arguments ...data.Value) (data.Value, int) {
	return data.List(arguments, data.Empty{}), 0
}

func isA[Kind data.Value](arguments ...data.Value) (data.Value, int) {
	_, is := arguments[0].(Kind)
	return data.Truth(is), 0
}

// same holds only values against each other that have no place of their own:
// pairs and procedures are the same as nothing, not even as themselves.
func same(arguments ...data.Value) (data.Value, int) {
	switch arguments[0].(type) {
	case data.Number, data.Truth, data.Symbol, data.Empty:
		return data.Truth(arguments[0] == arguments[1]), 0
	}
	return data.Truth(false), 0
}

func not(arguments ...data.Value) (data.Value, int) {
	return data.Truth(!data.IsTrue(arguments[0])), 0
}

func display(show func(text string)) Function {
	return func(arguments ...data.Value) (data.Value, int) {
		text, ok := data.Show(arguments[0])
		if !ok {
			return nil, api.WhyBig
		}
		show(text)
		return data.Empty{}, 0
	}
}
