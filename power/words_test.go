package power_test

import (
	"math"
	"math/big"
	"slices"
	"testing"

	"headroom/api"
	"headroom/power"
)

// most is the greatest part that numbers may have, either way, by the document.
const most = 1 << 31

// extremes are parts that are far from all that may be; squares of many of them are little numbers in 64 bits.
var extremes = []int{
	math.MinInt, math.MinInt + 1, -1 << 62, -1 << 33, -1<<32 - 1, -1 << 32, -1<<32 + 1,
	1<<32 - 1, 1 << 32, 1<<32 + 1, 1<<32 + 5, 1 << 33, 3 << 40, 1 << 62, math.MaxInt - 1, math.MaxInt,
}

// squareByWords is a number's square, by the document's words, in numbers that can't run over.
func squareByWords(a api.Cx) *big.Int {
	re, im := big.NewInt(int64(a.Re)), big.NewInt(int64(a.Im))
	return new(big.Int).Add(re.Mul(re, re), im.Mul(im, im))
}

func spectrumByWords(x []api.Cx) []uint64 {
	var all []uint64
	for _, a := range x {
		all = append(all, squareByWords(a).Uint64())
	}
	return all
}

func totalByWords(x []api.Cx) *big.Int {
	all := new(big.Int)
	for _, a := range x {
		all.Add(all, squareByWords(a))
	}
	return all
}

// peakByWords is the first place of a number whose square no other one's is greater than.
func peakByWords(x []api.Cx) int {
	return slices.IndexFunc(x, func(a api.Cx) bool {
		return !slices.ContainsFunc(x, func(b api.Cx) bool { return squareByWords(b).Cmp(squareByWords(a)) > 0 })
	})
}

func spectrum(t *testing.T, x []api.Cx) []uint64 {
	t.Helper()
	all, e := power.Spectrum(x)
	if e != api.OK || len(all) != len(x) {
		t.Fatalf("Spectrum of %d numbers: %d squares, error %d", len(x), len(all), e)
	}
	return all
}

// total is the sum of numbers' squares, of its two numbers.
func total(t *testing.T, x []api.Cx) *big.Int {
	t.Helper()
	over, left, e := power.Total(x)
	if e != api.OK {
		t.Fatalf("Total of %d numbers: error %d", len(x), e)
	}
	all := new(big.Int).Lsh(new(big.Int).SetUint64(over), 64)
	return all.Add(all, new(big.Int).SetUint64(left))
}

func peak(t *testing.T, x []api.Cx) int {
	t.Helper()
	place, e := power.Peak(x)
	if e != api.OK {
		t.Fatalf("Peak of %d numbers: error %d", len(x), e)
	}
	return place
}

// parts are n numbers from -limit to limit: many kinds of them, the same in each run.
func parts(n, seed, limit int) []int {
	state := uint64(seed)*2654435761 + 12345
	all := make([]int, n)
	for j := range all {
		state = state*6364136223846793005 + 1442695040888963407
		all[j] = int(state>>20)%(2*limit+1) - limit
	}
	return all
}

// numbers are n complex numbers, whose parts are from -limit to limit.
func numbers(n, seed, limit int) []api.Cx {
	re, im := parts(n, seed, limit), parts(n, seed+1000, limit)
	x := make([]api.Cx, n)
	for j := range x {
		x[j] = api.Cx{Re: re[j], Im: im[j]}
	}
	return x
}

// grid are all numbers of these parts, and their opposites.
func grid(some ...int) []api.Cx {
	for _, part := range slices.Clone(some) {
		some = append(some, -part)
	}
	var all []api.Cx
	for _, re := range some {
		for _, im := range some {
			all = append(all, api.Cx{Re: re, Im: im})
		}
	}
	return all
}

// samples are lists of numbers that may be: of many lengths and sizes, and at all edges.
func samples() [][]api.Cx {
	all := [][]api.Cx{
		nil, {}, {{}}, {{Re: 1}}, {{Im: -1}}, make([]api.Cx, 7),
		grid(0, 1, 2, 3, most-1, most), grid(most), grid(most-1, most), grid(1<<30, 1<<30-1, 5),
		slices.Repeat([]api.Cx{{Re: most, Im: -most}}, 2), slices.Repeat([]api.Cx{{Re: -most, Im: -most}}, 129),
		slices.Repeat([]api.Cx{{Re: 1 - most, Im: most - 1}}, 65),
	}
	for _, n := range []int{1, 2, 3, 4, 5, 17, 64, 100} {
		for _, limit := range []int{1, 2, 9, 1 << 15, 1 << 30, most - 1, most} {
			all = append(all, numbers(n, n+limit, limit))
		}
	}
	return all
}

// ofTotal are numbers whose squares are a total together: each part is the greatest that there is room for.
func ofTotal(all *big.Int) []api.Cx {
	left := new(big.Int).Set(all)
	next := func() int {
		part := new(big.Int).Sqrt(left)
		if part.Cmp(big.NewInt(most)) > 0 {
			part.SetInt64(most)
		}
		left.Sub(left, new(big.Int).Mul(part, part))
		return int(part.Int64())
	}
	var x []api.Cx
	for left.Sign() > 0 {
		re := next()
		x = append(x, api.Cx{Re: re, Im: -next()})
	}
	return x
}
