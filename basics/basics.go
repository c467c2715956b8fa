// Package basics: the procedures that are there.
package basics

import (
	"math"

	"rondo/data"
)

// Function answers a value, or why there is none (one of api's reasons). It
// is called only with as many arguments as its procedure takes.
type Function func(arguments ...data.Value) (data.Value, int)

// Basic is a procedure that is there under a name at first.
type Basic struct {
	data.Arity
	Name data.Symbol
	Do   Function
}

// All makes the procedures that are there. What display shows goes to show.
func All(show func(text string)) []*Basic {
	return []*Basic{
		{Name: "+", Arity: atLeast(0), Do: ofNumbers(sum)},
		{Name: "*", Arity: atLeast(0), Do: ofNumbers(product)},
		{Name: "-", Arity: atLeast(1), Do: ofNumbers(difference)},
		{Name: "quotient", Arity: exactly(2), Do: ofNumbers(quotient)},
		{Name: "remainder", Arity: exactly(2), Do: ofNumbers(remainder)},
		{Name: "<", Arity: atLeast(1), Do: ofNumbers(less)},
		{Name: ">", Arity: atLeast(1), Do: ofNumbers(greater)},
		{Name: "=", Arity: atLeast(1), Do: ofNumbers(equal)},
		{Name: "cons", Arity: exactly(2), Do: cons},
		{Name: "car", Arity: exactly(1), Do: ofPair(head)},
		{Name: "cdr", Arity: exactly(1), Do: ofPair(tail)},
		{Name: "list", Arity: atLeast(0), Do: list},
		{Name: "pair?", Arity: exactly(1), Do: isA[*data.Pair]},
		{Name: "null?", Arity: exactly(1), Do: isA[data.Empty]},
		{Name: "number?", Arity: exactly(1), Do: isA[data.Number]},
		{Name: "symbol?", Arity: exactly(1), Do: isA[data.Symbol]},
		{Name: "procedure?", Arity: exactly(1), Do: isA[data.Procedure]},
		{Name: "boolean?", Arity: exactly(1), Do: isA[data.Truth]},
		{Name: "eq?", Arity: exactly(2), Do: same},
		{Name: "not", Arity: exactly(1), Do: not},
		{Name: "display", Arity: exactly(1), Do: display(show)},
	}
}

func exactly(count int) data.Arity {
	return data.Arity{Least: count, Most: count}
}

func atLeast(count int) data.Arity {
	return data.Arity{Least: count, Most: math.MaxInt}
}
