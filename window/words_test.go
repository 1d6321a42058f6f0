package window_test

import (
	"math/big"
	"testing"

	"headroom/api"
	"headroom/roots"
)

// The edges that the document names: of kinds, of lengths and of bits.
const (
	kinds   = 4
	minLog  = 2
	maxLog  = 6
	maxBits = 40
	modes   = 3
)

// bitsOf are a format's bits behind the sign, by the document.
func bitsOf(format int) int { return []int{15, 31}[format] }

// down is a number divided by one above 0, rounded down.
func down(x *big.Int, d int64) *big.Int {
	// Div leaves 0 or more, of divisors above 0: so it rounds down.
	return new(big.Int).Div(x, big.NewInt(d))
}

// summed are numbers, each so many times.
func summed(pairs ...int) *big.Int {
	sum := new(big.Int)
	for ; len(pairs) > 0; pairs = pairs[2:] {
		sum.Add(sum, new(big.Int).Mul(big.NewInt(int64(pairs[0])), big.NewInt(int64(pairs[1]))))
	}
	return sum
}

// weightByWords is weight k of a window, by the document's words.
func weightByWords(t *testing.T, kind, log, k, bits int) int {
	t.Helper()
	o := 1 << bits
	c := func(k int) int {
		z, e := roots.Root(log, k, bits)
		if e != api.OK {
			t.Fatalf("Root %d of 2^%d in %d bits: error %d", k, log, bits, e)
		}
		return z.Re
	}
	switch kind {
	case api.WHann:
		// A half goes up: the half of a number is that of the one behind it, rounded down.
		return int(down(summed(1, o, -1, c(k), 1, 1), 2).Int64())
	case api.WHamming:
		return int(down(summed(25, o, -21, c(k)), 46).Int64())
	case api.WBlackman:
		return int(down(summed(21, o, -25, c(k), 4, c(2*k)), 50).Int64())
	}
	return o
}

// windowByWords are all weights.
func windowByWords(t *testing.T, kind, log, bits int) []int {
	t.Helper()
	var all []int
	for k := 0; k < 1<<log; k++ {
		all = append(all, weightByWords(t, kind, log, k, bits))
	}
	return all
}

// rounded is x divided by 2^s, by what is left of it.
func rounded(x *big.Int, s, mode int) int {
	unit := new(big.Int).Lsh(big.NewInt(1), uint(s))
	less, left := new(big.Int).DivMod(x, unit, new(big.Int))
	half := new(big.Int).Lsh(left, 1).Cmp(unit)
	if mode != api.MFloor && half > 0 || mode == api.MUp && half == 0 || mode == api.MEven && half == 0 && less.Bit(0) == 1 {
		less.Add(less, big.NewInt(1))
	}
	return int(less.Int64())
}

// weighedByWords are real numbers weighed by a window's weights.
func weighedByWords(x, weights []int, format, mode int) []int {
	var y []int
	for k, a := range x {
		y = append(y, rounded(summed(a, weights[k]), bitsOf(format)-2, mode))
	}
	return y
}
