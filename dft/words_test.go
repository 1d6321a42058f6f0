package dft_test

import (
	"math"
	"math/big"
	"testing"

	"headroom/api"
	"headroom/dft"
	"headroom/roots"
)

// rootBits are those that the document gives the roots of a bin.
const rootBits = 40

// place is what is left of k, divided by n, 0 or more.
func place(k, n int) int {
	return int(new(big.Int).Mod(big.NewInt(int64(k)), big.NewInt(int64(n))).Int64())
}

// tables are the roots of each length, asked one by one.
func tables(t *testing.T) map[int][]api.Cx {
	all := map[int][]api.Cx{}
	for log := minLog; log <= maxLog; log++ {
		for k := range 1 << log {
			w, e := roots.Root(log, k, rootBits)
			if e != api.OK {
				t.Fatalf("Root %d of 2^%d: error %d", k, log, e)
			}
			all[1<<log] = append(all[1<<log], w)
		}
	}
	return all
}

// product is a times b, of any size.
func product(a, b int) *big.Int {
	return new(big.Int).Mul(big.NewInt(int64(a)), big.NewInt(int64(b)))
}

// byWords is the bin by the document's words, with numbers of any size.
func byWords(x, w []api.Cx, k int, inverse bool) api.Cx {
	re, im := new(big.Int), new(big.Int)
	for j, a := range x {
		root := w[j*place(k, len(x))%len(x)]
		if inverse {
			root.Im = -root.Im
		}
		re.Add(re, product(a.Re, root.Re))
		re.Sub(re, product(a.Im, root.Im))
		im.Add(im, product(a.Re, root.Im))
		im.Add(im, product(a.Im, root.Re))
	}
	// Div leaves 0 or more, of divisors above 0: so it rounds down.
	unit := big.NewInt(1 << 32)
	return api.Cx{Re: int(re.Div(re, unit).Int64()), Im: int(im.Div(im, unit).Int64())}
}

// P16.1: all bins, both ways, by the document's words.
func TestBinsByWords(t *testing.T) {
	w := tables(t)
	eachSample(func(n int, x []api.Cx) {
		for _, inverse := range bothWays {
			for k, z := range binsOf(t, x, inverse) {
				if want := byWords(x, w[n], k, inverse); z != want {
					t.Fatalf("bin %d of %v, inverse %t, is %v, not %v", k, x, inverse, z, want)
				}
			}
		}
	})
}

// P16.1: bins of any k, on both sides of those that there are, and far from them.
func TestBinsOfAnyPlace(t *testing.T) {
	w := tables(t)
	for _, n := range lengths() {
		for _, x := range [][]api.Cx{spread(n, 7, 1000), corners(n, 9)} {
			for _, k := range places(n) {
				for _, inverse := range bothWays {
					if z, want := binOf(t, x, k, inverse), byWords(x, w[n], k, inverse); z != want {
						t.Fatalf("Bin %d of %v, inverse %t, is %v, not %v", k, x, inverse, z, want)
					}
				}
			}
		}
	}
}

// P16.1: slacks by the document's words, with numbers of any size.
func TestSlackByWords(t *testing.T) {
	eachSample(func(n int, x []api.Cx) {
		m := 0
		for _, a := range x {
			m = max(m, a.Re, -a.Re, a.Im, -a.Im)
		}
		want := product(2*n, m)
		want.Div(want, big.NewInt(1<<32))
		want.Add(want, big.NewInt(2))
		if s := slackOf(t, x); big.NewInt(int64(s)).Cmp(want) != 0 {
			t.Errorf("Slack of %v is %d, not %v", x, s, want)
		}
	})
}

// P16.2: bins come again behind n, and ahead of 0.
func TestBinsComeAgain(t *testing.T) {
	eachSample(func(n int, x []api.Cx) {
		for _, inverse := range bothWays {
			for k, z := range binsOf(t, x, inverse)[:4] {
				for _, again := range []int{k + n, k - n, k + 2*n, k + math.MinInt, k + 1<<62} {
					if y := binOf(t, x, again, inverse); y != z {
						t.Fatalf("Bin %d of %v, inverse %t, is %v, not %v", again, x, inverse, y, z)
					}
				}
			}
		}
	})
}

// P16.2: bin 0 is the sum of the numbers, exactly: 256 times as many 256ths.
func TestBinOfNothingIsTheSum(t *testing.T) {
	eachSample(func(n int, x []api.Cx) {
		var sum api.Cx
		for _, a := range x {
			sum.Re += 256 * a.Re
			sum.Im += 256 * a.Im
		}
		for _, inverse := range bothWays {
			if z := binOf(t, x, 0, inverse); z != sum {
				t.Errorf("Bin 0 of %v, inverse %t, is %v, not %v", x, inverse, z, sum)
			}
		}
	})
}

// P16.2: the inverse's bin k is bin -k.
func TestInverseIsTheOtherWay(t *testing.T) {
	eachSample(func(n int, x []api.Cx) {
		there, back := binsOf(t, x, false), binsOf(t, x, true)
		for k := range n {
			if z := there[place(-k, n)]; back[k] != z {
				t.Fatalf("of %v the inverse's bin %d is %v, and bin -%d is %v", x, k, back[k], k, z)
			}
		}
	})
	for _, n := range lengths() {
		x := corners(n, 3)
		for _, k := range places(n) {
			if z, y := binOf(t, x, -k, false), binOf(t, x, k, true); z != y {
				t.Fatalf("of %v the inverse's bin %d is %v, and bin %d is %v", x, k, y, -k, z)
			}
		}
	}
}

// farFromFirst holds the sum of all bins against n times the first number, to n times the slack.
func farFromFirst(t *testing.T, x []api.Cx) {
	t.Helper()
	n, slack := len(x), slackOf(t, x)
	for _, inverse := range bothWays {
		off := api.Cx{Re: -256 * n * x[0].Re, Im: -256 * n * x[0].Im}
		for _, z := range binsOf(t, x, inverse) {
			off.Re += z.Re
			off.Im += z.Im
		}
		if max(off.Re, -off.Re, off.Im, -off.Im) > n*slack {
			t.Errorf("the bins of %v, inverse %t, are together %v away from %d times the first number, slack %d", x, inverse, off, n, slack)
		}
	}
}

// P16.2: the sum of all bins is n times the first number, to n times the slack.
func TestSumOfAllBins(t *testing.T) {
	eachSample(func(_ int, x []api.Cx) { farFromFirst(t, x) })
}

// P16.1, R5: no sum or product runs over, of the numbers that make each bin's parts greatest: it is as great as they are together, nearly.
func TestGreatestBins(t *testing.T) {
	for _, n := range lengths() {
		w := tables(t)[n]
		for k := range n {
			x := made(n, func(j int) api.Cx { return api.Cx{Re: towards(w[j*k%n].Re), Im: towards(-w[j*k%n].Im)} })
			z, e := dft.Bin(x, k, false)
			if want := byWords(x, w, k, false); e != api.OK || z != want || z.Re < n*farthest*255 {
				t.Errorf("Bin %d of %v is %v, error %d, not %v", k, x, z, e, want)
			}
		}
	}
}

// towards is a part as far from 0 as may be, of the sign of what it is to be multiplied by.
func towards(of int) int {
	if of < 0 {
		return -farthest
	}
	return farthest
}
