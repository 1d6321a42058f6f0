package gain

import (
	"math/big"
	"testing"
)

// P5.1: Inverse's long division, which Inverse itself asks of one number alone, held against one that can't run over: divisors to 2^63, and upper bits to 1 less than the divisor, so that both what is left and the quotient are as great as they may be.
func TestLongDivision(t *testing.T) {
	lower := []uint64{0, 1, 2, 3, 1<<32 - 1, 1 << 32, 1<<63 - 1, 1 << 63, 1<<64 - 2, 1<<64 - 1}
	for _, d := range []uint64{1, 2, 3, 7, 10, 1<<32 - 1, 1 << 32, 118661582157481174, 1<<62 + 1, 1<<63 - 1, 1 << 63} {
		for _, upper := range []uint64{0, 1, d / 3, d / 2, d - 1} {
			if upper >= d {
				continue
			}
			for _, low := range lower {
				whole := new(big.Int).SetUint64(upper)
				whole.Lsh(whole, 64).Add(whole, new(big.Int).SetUint64(low))
				want := new(big.Int).Quo(whole, new(big.Int).SetUint64(d))
				n := wide{upper, low}
				if told := new(big.Int).SetUint64(n.divided(d)); told.Cmp(want) != 0 {
					t.Errorf("%v divided by %d is %v, not %v", whole, d, told, want)
				}
				if n != (wide{upper, low}) {
					t.Errorf("%v was changed", n)
				}
			}
		}
	}
}
