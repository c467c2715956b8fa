package basics

import (
	"math"
	"math/big"
	"testing"

	"rondo/api"
	"rondo/data"
)

// ends are the numbers around which sums and products leave 64 bits.
func ends() []int64 {
	list := []int64{0, 3, -3, 7, 1000003, 3037000499, 3037000500, -3037000500}
	for _, power := range []uint{0, 1, 31, 32, 33, 61, 62} {
		for near := int64(-2); near <= 2; near++ {
			list = append(list, 1<<power+near, -1<<power+near)
		}
	}
	for near := range int64(4) {
		list = append(list, math.MaxInt64-near, math.MinInt64+near, math.MaxInt64/2+near, math.MinInt64/2-near, math.MaxInt64/3+near)
	}
	return list
}

func wantResult(t *testing.T, name data.Symbol, numbers []int64, exact *big.Int, why int) {
	t.Helper()
	var arguments []data.Value
	for _, number := range numbers {
		arguments = append(arguments, data.Number(number))
	}
	got, gotWhy := named(name).Do(arguments...)
	if why == 0 && !exact.IsInt64() {
		why = api.WhyOver
	}
	if gotWhy != why || why == 0 && got != data.Number(exact.Int64()) || why != 0 && got != nil {
		t.Errorf("%s of %v: %v, %d, want %v, %d", name, numbers, got, gotWhy, exact, why)
	}
}

func named(name data.Symbol) *Basic {
	for _, basic := range All(func(string) {}) {
		if basic.Name == name {
			return basic
		}
	}
	return nil
}

func TestTwoNumbersAtTheEnds(t *testing.T) {
	for _, a := range ends() {
		x := big.NewInt(a)
		wantResult(t, "-", []int64{a}, new(big.Int).Neg(x), 0)
		wantResult(t, "+", []int64{a}, x, 0)
		wantResult(t, "*", []int64{a}, x, 0)
		for _, b := range ends() {
			y := big.NewInt(b)
			wantResult(t, "+", []int64{a, b}, new(big.Int).Add(x, y), 0)
			wantResult(t, "-", []int64{a, b}, new(big.Int).Sub(x, y), 0)
			wantResult(t, "*", []int64{a, b}, new(big.Int).Mul(x, y), 0)
			divide(t, a, b)
		}
	}
}

func divide(t *testing.T, a, b int64) {
	t.Helper()
	if b == 0 {
		wantResult(t, "quotient", []int64{a, b}, nil, api.WhyZero)
		wantResult(t, "remainder", []int64{a, b}, nil, api.WhyZero)
		return
	}
	quotient, remainder := new(big.Int).QuoRem(big.NewInt(a), big.NewInt(b), new(big.Int))
	wantResult(t, "quotient", []int64{a, b}, quotient, 0)
	if !quotient.IsInt64() {
		wantResult(t, "remainder", []int64{a, b}, nil, api.WhyOver)
		return
	}
	wantResult(t, "remainder", []int64{a, b}, remainder, 0)
}

// It goes wrong as soon as it is beyond, though what comes later would bring it back.
func TestThreeNumbersFromTheLeft(t *testing.T) {
	small := []int64{0, 1, -1, 2, -2, math.MaxInt64, math.MinInt64, 1 << 32, -1 << 31}
	for _, a := range small {
		for _, b := range small {
			for _, c := range small {
				x, y, z := big.NewInt(a), big.NewInt(b), big.NewInt(c)
				join := func(name data.Symbol, do func(total, x, y *big.Int) *big.Int) {
					two := do(new(big.Int), x, y)
					if !two.IsInt64() {
						wantResult(t, name, []int64{a, b, c}, nil, api.WhyOver)
						return
					}
					wantResult(t, name, []int64{a, b, c}, do(new(big.Int), two, z), 0)
				}
				join("+", (*big.Int).Add)
				join("-", (*big.Int).Sub)
				join("*", (*big.Int).Mul)
			}
		}
	}
}
