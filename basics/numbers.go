package basics

import (
	"math"

	"rondo/api"
	"rondo/data"
)

// ofNumbers makes a function of one whose arguments must be numbers. It looks
// at all of them first, because WhyType counts ahead of what do finds.
func ofNumbers(do func(numbers ...int64) (data.Value, int)) Function {
	return func(arguments ...data.Value) (data.Value, int) {
		numbers := make([]int64, len(arguments))
		for i, argument := range arguments {
			number, is := argument.(data.Number)
			if !is {
				return nil, api.WhyType
			}
			numbers[i] = int64(number)
		}
		return do(numbers...)
	}
}

func sum(numbers ...int64) (data.Value, int) {
	return fromLeft(plus, 0, numbers...)
}

func product(numbers ...int64) (data.Value, int) {
	return fromLeft(times, 1, numbers...)
}

func difference(numbers ...int64) (data.Value, int) {
	if len(numbers) == 1 {
		return fromLeft(minus, 0, numbers...)
	}
	return fromLeft(minus, numbers[0], numbers[1:]...)
}

// fromLeft takes the numbers in, one by one, as long as what comes of it is
// within 64 bits.
func fromLeft(join func(a, b int64) (int64, bool), first int64, numbers ...int64) (data.Value, int) {
	for _, number := range numbers {
		joined, within := join(first, number)
		if !within {
			return nil, api.WhyOver
		}
		first = joined
	}
	return data.Number(first), 0
}

func plus(a, b int64) (int64, bool) {
	c := a + b
	return c, (c >= a) == (b >= 0)
}

func minus(a, b int64) (int64, bool) {
	c := a - b
	return c, (c <= a) == (b >= 0)
}

func times(a, b int64) (int64, bool) {
	if b == 0 {
		return 0, true
	}
	c := a * b
	// A product that wrapped round is told by its quotient, unless that one
	// wraps round too.
	return c, c/b == a && !wraps(a, b)
}

// wraps says whether a / b is beyond 64 bits.
func wraps(a, b int64) bool {
	return a == math.MinInt64 && b == -1
}

func quotient(numbers ...int64) (data.Value, int) {
	return divided(func(a, b int64) int64 { return a / b }, numbers...)
}

func remainder(numbers ...int64) (data.Value, int) {
	return divided(func(a, b int64) int64 { return a % b }, numbers...)
}

// divided looks at the quotient for both: the remainder goes wrong with it.
func divided(do func(a, b int64) int64, numbers ...int64) (data.Value, int) {
	a, b := numbers[0], numbers[1]
	switch {
	case b == 0:
		return nil, api.WhyZero
	case wraps(a, b):
		return nil, api.WhyOver
	}
	return data.Number(do(a, b)), 0
}

func less(numbers ...int64) (data.Value, int) {
	return neighbours(func(a, b int64) bool { return a < b }, numbers...)
}

func greater(numbers ...int64) (data.Value, int) {
	return neighbours(func(a, b int64) bool { return a > b }, numbers...)
}

func equal(numbers ...int64) (data.Value, int) {
	return neighbours(func(a, b int64) bool { return a == b }, numbers...)
}

// neighbours says whether something holds of each two that are neighbours.
func neighbours(holds func(a, b int64) bool, numbers ...int64) (data.Value, int) {
	for i := 1; i < len(numbers); i++ {
		if !holds(numbers[i-1], numbers[i]) {
			return data.Truth(false), 0
		}
	}
	return data.Truth(true), 0
}
