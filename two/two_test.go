package two_test

import (
	"math"
	"math/big"
	"math/cmplx"
	"slices"
	"testing"

	"headroom/api"
	"headroom/flip"
	"headroom/roots"
	"headroom/two"
)

// The edges that the document names: of numbers' parts, of roots' bits, and of shifts.
const (
	farthest  = 1 << 31
	mostBits  = 29
	mostShift = 3
)

// modes and lengths are all that there are.
var (
	modes   = []int{api.MFloor, api.MUp, api.MEven}
	lengths = []int{4, 8, 16, 32, 64}
)

// extremes are numbers that are far from all that may be.
var extremes = []int{math.MinInt, math.MinInt + 1, -1 << 62, -1 << 33, 1<<32 + 1, 1 << 33, 1<<61 + 1, 1 << 62, math.MaxInt - 1, math.MaxInt}

// The others are next to those that may be, and far from them.
var (
	wrongModes  = append([]int{-1, 3, 4, 256}, extremes...)
	wrongBits   = append([]int{-1, -2, -29, mostBits + 1, mostBits + 2, 31, 32, 61, 62, 63, 64, 65, 128, 256 + 13}, extremes...)
	wrongShifts = append([]int{-1, -2, -3, mostShift + 1, mostShift + 2, 62, 63, 64, 65, 256 + 1}, extremes...)
	wrongParts  = append([]int{farthest + 1, -farthest - 1, farthest + 2, -farthest - 2, 1 << 32, -1 << 32}, extremes...)
)

// wrongHalves are next to those that may be of n numbers, and far from them.
func wrongHalves(n int) []int {
	all := append([]int{-1, -2, -4, -n / 2, -n, 0, n, 2 * n, 4 * n, 1<<32 + 1, 1<<32 + n/2}, extremes...)
	for h := 3; h < 2*n; h++ {
		if h&(h-1) != 0 {
			all = append(all, h)
		}
	}
	return all
}

// wrongRoots are parts that roots in so many bits may not have.
func wrongRoots(bits int) []int {
	one := 1 << bits
	return append([]int{one + 1, -one - 1, one + 2, -one - 2, 2*one + 1, -2*one - 1, farthest, -farthest}, extremes...)
}

// halves are those of all passes of n numbers.
func halves(n int) []int {
	var all []int
	for h := 1; h <= n/2; h *= 2 {
		all = append(all, h)
	}
	return all
}

// scalings goes through all bits, shifts and modes that may be.
func scalings(do func(bits, s, mode int)) {
	for bits := range mostBits + 1 {
		for s := range mostShift + 1 {
			for _, mode := range modes {
				do(bits, s, mode)
			}
		}
	}
}

// spread are n numbers of which no part is greater than most, either way: many kinds of them, the same in each run.
func spread(n, seed, most int) []api.Cx {
	state := uint64(seed)*2654435761 + 12345
	part := func() int {
		state = state*6364136223846793005 + 1442695040888963407
		return int(state>>20)%(2*most+1) - most
	}
	x := make([]api.Cx, n)
	for k := range x {
		x[k].Re = part()
		x[k].Im = part()
	}
	return x
}

// corners are the numbers whose parts are as great as may be, of each sign.
func corners(most int) []api.Cx {
	return []api.Cx{{Re: most, Im: most}, {Re: most, Im: -most}, {Re: -most, Im: most}, {Re: -most, Im: -most}}
}

// edges are n numbers, corners of which some have a part of 0, or of 1 less.
func edges(n, seed, most int) []api.Cx {
	x := make([]api.Cx, n)
	for k := range x {
		a := corners(most)[(k+seed)%4]
		switch (k*7 + seed) % 5 {
		case 1:
			a.Re = 0
		case 2:
			a.Im = 0
		case 3:
			a.Re -= a.Re / most
		}
		x[k] = a
	}
	return x
}

func pair(t *testing.T, a, b, w api.Cx, bits, s, mode int) (api.Cx, api.Cx) {
	t.Helper()
	sum, less, e := two.Pair(a, b, w, bits, s, mode)
	if e != api.OK {
		t.Fatalf("Pair of %v, %v, %v, %d bits, by %d, mode %d: error %d", a, b, w, bits, s, mode, e)
	}
	return sum, less
}

func pass(t *testing.T, x, w []api.Cx, h, bits, s, mode int, inverse bool) []api.Cx {
	t.Helper()
	y, e := two.Pass(x, w, h, bits, s, mode, inverse)
	if e != api.OK || len(y) != len(x) {
		t.Fatalf("Pass of %d numbers, halves %d, %d bits, by %d, mode %d: %d numbers, error %d", len(x), h, bits, s, mode, len(y), e)
	}
	return y
}

// rounded is x divided by 2^s, by how far the two whole numbers next to it are.
func rounded(x *big.Int, s, mode int) int {
	unit := new(big.Int).Lsh(big.NewInt(1), uint(s))
	less, left := new(big.Int).DivMod(x, unit, new(big.Int))
	lacking := new(big.Int).Sub(unit, left)
	n := int(less.Int64())
	switch {
	case mode == api.MFloor || left.Cmp(lacking) < 0:
		return n
	case left.Cmp(lacking) > 0 || mode == api.MUp || n%2 != 0:
		return n + 1
	}
	return n
}

// product is that of two whole numbers, of any size.
func product(a, b int) *big.Int {
	return new(big.Int).Mul(big.NewInt(int64(a)), big.NewInt(int64(b)))
}

// pairByWords is the pair by the document's words, in numbers that can't run over.
func pairByWords(a, b, w api.Cx, bits, s, mode int) (api.Cx, api.Cx) {
	re := new(big.Int).Sub(product(b.Re, w.Re), product(b.Im, w.Im))
	im := new(big.Int).Add(product(b.Re, w.Im), product(b.Im, w.Re))
	x, y := product(a.Re, 1<<bits), product(a.Im, 1<<bits)
	part := func(z *big.Int) int { return rounded(z, bits+s, mode) }
	sum := api.Cx{Re: part(new(big.Int).Add(x, re)), Im: part(new(big.Int).Add(y, im))}
	less := api.Cx{Re: part(new(big.Int).Sub(x, re)), Im: part(new(big.Int).Sub(y, im))}
	return sum, less
}

// passByWords is the pass by the document's words: block after block, cut from the numbers.
func passByWords(x, w []api.Cx, h, bits, s, mode int, inverse bool) []api.Cx {
	n := len(x)
	var y []api.Cx
	for block := range slices.Chunk(x, 2*h) {
		sums, differences := make([]api.Cx, h), make([]api.Cx, h)
		for j := range h {
			root := w[j*n/(2*h)]
			if inverse {
				root.Im = -root.Im
			}
			sums[j], differences[j] = pairByWords(block[j], block[h+j], root, bits, s, mode)
		}
		y = append(append(y, sums...), differences...)
	}
	return y
}

// P10.1: pairs by hand; the first is the document's example.
func TestPairByHand(t *testing.T) {
	for _, c := range []struct {
		a, b, w       api.Cx
		bits, s, mode int
		sum, less     api.Cx
	}{
		{api.Cx{Re: 3}, api.Cx{Re: 1}, api.Cx{Re: 1}, 0, 1, api.MFloor, api.Cx{Re: 2}, api.Cx{Re: 1}},
		{api.Cx{Re: 3}, api.Cx{Re: 1}, api.Cx{Re: 1}, 0, 1, api.MUp, api.Cx{Re: 2}, api.Cx{Re: 1}},
		{api.Cx{Re: 3}, api.Cx{Re: 1}, api.Cx{Re: 1}, 0, 1, api.MEven, api.Cx{Re: 2}, api.Cx{Re: 1}},
		{api.Cx{Re: 3, Im: -5}, api.Cx{}, api.Cx{Re: 1, Im: 1}, 0, 0, api.MUp, api.Cx{Re: 3, Im: -5}, api.Cx{Re: 3, Im: -5}},
		{api.Cx{}, api.Cx{Re: 3, Im: 4}, api.Cx{Re: 1}, 0, 0, api.MUp, api.Cx{Re: 3, Im: 4}, api.Cx{Re: -3, Im: -4}},
		{api.Cx{}, api.Cx{Re: 3, Im: 4}, api.Cx{Im: 1}, 0, 0, api.MUp, api.Cx{Re: -4, Im: 3}, api.Cx{Re: 4, Im: -3}},
		{api.Cx{}, api.Cx{Re: 3, Im: 4}, api.Cx{Im: -1}, 0, 0, api.MUp, api.Cx{Re: 4, Im: -3}, api.Cx{Re: -4, Im: 3}},
		{api.Cx{Re: 1, Im: 2}, api.Cx{Re: 3, Im: 4}, api.Cx{Im: 1}, 0, 0, api.MFloor, api.Cx{Re: -3, Im: 5}, api.Cx{Re: 5, Im: -1}},
		{api.Cx{Re: 1, Im: -1}, api.Cx{}, api.Cx{}, 0, 1, api.MFloor, api.Cx{Re: 0, Im: -1}, api.Cx{Re: 0, Im: -1}},
		{api.Cx{Re: 1, Im: -1}, api.Cx{}, api.Cx{}, 0, 1, api.MUp, api.Cx{Re: 1, Im: 0}, api.Cx{Re: 1, Im: 0}},
		{api.Cx{Re: 3, Im: 1}, api.Cx{}, api.Cx{}, 0, 1, api.MEven, api.Cx{Re: 2, Im: 0}, api.Cx{Re: 2, Im: 0}},
		{api.Cx{Re: 20, Im: 12}, api.Cx{Re: 4}, api.Cx{Re: 2}, 1, 3, api.MUp, api.Cx{Re: 3, Im: 2}, api.Cx{Re: 2, Im: 2}},
		{api.Cx{}, api.Cx{Re: 1000}, api.Cx{Re: 5793, Im: -5793}, 13, 0, api.MFloor, api.Cx{Re: 707, Im: -708}, api.Cx{Re: -708, Im: 707}},
		{api.Cx{Re: 1}, api.Cx{Re: 1000}, api.Cx{Re: 5793, Im: -5793}, 13, 0, api.MUp, api.Cx{Re: 708, Im: -707}, api.Cx{Re: -706, Im: 707}},
		{api.Cx{Re: 1}, api.Cx{Re: 1}, api.Cx{Re: 4096, Im: 4096}, 13, 0, api.MUp, api.Cx{Re: 2, Im: 1}, api.Cx{Re: 1, Im: 0}},
		{api.Cx{Re: 1}, api.Cx{Re: 1}, api.Cx{Re: 4096, Im: 4096}, 13, 0, api.MEven, api.Cx{Re: 2, Im: 0}, api.Cx{Re: 0, Im: 0}},
		{api.Cx{Re: farthest, Im: farthest}, api.Cx{Re: farthest, Im: farthest}, api.Cx{Re: 1 << 29, Im: -1 << 29}, 29, 0, api.MFloor,
			api.Cx{Re: 3 * farthest, Im: farthest}, api.Cx{Re: -farthest, Im: farthest}},
		{api.Cx{Re: -farthest, Im: -farthest}, api.Cx{Re: farthest, Im: farthest}, api.Cx{Re: 1 << 29, Im: -1 << 29}, 29, 3, api.MEven,
			api.Cx{Re: farthest / 8, Im: -farthest / 8}, api.Cx{Re: -3 * farthest / 8, Im: -farthest / 8}},
	} {
		if sum, less := pair(t, c.a, c.b, c.w, c.bits, c.s, c.mode); sum != c.sum || less != c.less {
			t.Errorf("Pair of %v, %v, %v, %d bits, by %d, mode %d is %v, %v, not %v, %v", c.a, c.b, c.w, c.bits, c.s, c.mode, sum, less, c.sum, c.less)
		}
	}
}

// P10.1, R5: pairs of many numbers, and of all that are as great as may be, against numbers of any size.
func TestPairByWords(t *testing.T) {
	scalings(func(bits, s, mode int) {
		check := func(a, b, w api.Cx) {
			t.Helper()
			sum, less := pair(t, a, b, w, bits, s, mode)
			if want, wantLess := pairByWords(a, b, w, bits, s, mode); sum != want || less != wantLess {
				t.Fatalf("Pair of %v, %v, %v, %d bits, by %d, mode %d is %v, %v, not %v, %v", a, b, w, bits, s, mode, sum, less, want, wantLess)
			}
		}
		for _, w := range corners(1 << bits) {
			for _, b := range corners(farthest) {
				for _, a := range corners(farthest) {
					check(a, b, w)
				}
			}
		}
		for _, most := range []int{1, 9, 32768, farthest} {
			as, bs, ws := spread(8, 1+bits, most), spread(8, 100+s, most), spread(8, 200+mode, 1<<bits)
			for k, a := range as {
				check(a, bs[k], ws[k])
			}
		}
	})
}

// P10.1: each quotient is rounded once, behind sum and difference: halves of small numbers, all of them, in all modes.
func TestPairIsRoundedOnce(t *testing.T) {
	for re := -9; re <= 9; re++ {
		for im := -9; im <= 9; im++ {
			for _, c := range []struct {
				w    api.Cx
				bits int
			}{{api.Cx{Re: 1}, 0}, {api.Cx{Re: 1, Im: -1}, 1}, {api.Cx{Re: -3, Im: 2}, 2}} {
				for s := range mostShift + 1 {
					for _, mode := range modes {
						a, b := api.Cx{Re: re, Im: im}, api.Cx{Re: im, Im: 1 - re}
						sum, less := pair(t, a, b, c.w, c.bits, s, mode)
						if want, wantLess := pairByWords(a, b, c.w, c.bits, s, mode); sum != want || less != wantLess {
							t.Fatalf("Pair of %v, %v, %v, %d bits, by %d, mode %d is %v, %v", a, b, c.w, c.bits, s, mode, sum, less)
						}
					}
				}
			}
		}
	}
}

// P10.1, R2, P1: bits, a shift or a mode that may not be is told, ahead of a part that may not be, and beside that is nothing.
func TestPairErrArg(t *testing.T) {
	refused := func(bits, s, mode int) {
		t.Helper()
		for _, c := range [][3]api.Cx{
			{},
			{{Re: 1, Im: 2}, {Re: 3, Im: 4}, {Re: 1}},
			{{Re: farthest + 1}, {Re: 3}, {Re: 1}},
			{{Re: 3}, {Im: math.MinInt}, {}},
			{{Re: 3}, {Re: 3}, {Im: math.MaxInt}},
		} {
			if sum, less, e := two.Pair(c[0], c[1], c[2], bits, s, mode); sum != (api.Cx{}) || less != (api.Cx{}) || e != api.ErrArg {
				t.Errorf("Pair of %v, %d bits, by %d, mode %d is %v, %v, error %d", c, bits, s, mode, sum, less, e)
			}
		}
	}
	eachWrongScaling(refused)
}

// eachWrongScaling goes through bits, shifts and modes of which one may not be, or more.
func eachWrongScaling(do func(bits, s, mode int)) {
	for _, bits := range wrongBits {
		for s := -1; s <= mostShift+1; s++ {
			for mode := -1; mode <= 3; mode++ {
				do(bits, s, mode)
			}
		}
		// Together they would be bits and a shift that may be.
		do(bits, -bits, api.MUp)
		do(bits, 3-bits, api.MUp)
	}
	for _, bits := range []int{0, 1, 13, 28, mostBits} {
		for _, s := range wrongShifts {
			for mode := -1; mode <= 3; mode++ {
				do(bits, s, mode)
			}
		}
		for s := range mostShift + 1 {
			for _, mode := range wrongModes {
				do(bits, s, mode)
			}
		}
	}
}

// P10.1, R2, P1: a part out of its range is told, whichever it is; a root's range is that of its bits.
func TestPairErrRange(t *testing.T) {
	scalings(func(bits, s, mode int) {
		one := 1 << bits
		a, b, w := api.Cx{Re: farthest, Im: -farthest}, api.Cx{Re: -farthest, Im: farthest}, api.Cx{Re: one, Im: -one}
		pair(t, a, b, w, bits, s, mode)
		refused := func(a, b, w api.Cx) {
			t.Helper()
			if sum, less, e := two.Pair(a, b, w, bits, s, mode); sum != (api.Cx{}) || less != (api.Cx{}) || e != api.ErrRange {
				t.Errorf("Pair of %v, %v, %v, %d bits, by %d, mode %d is %v, %v, error %d", a, b, w, bits, s, mode, sum, less, e)
			}
		}
		for _, p := range wrongParts {
			for _, wrong := range []api.Cx{{Re: p}, {Im: p}, {Re: p, Im: 1}, {Re: -1, Im: p}, {Re: p, Im: p}} {
				refused(wrong, b, w)
				refused(a, wrong, w)
			}
		}
		for _, p := range wrongRoots(bits) {
			for _, wrong := range []api.Cx{{Re: p}, {Im: p}, {Re: p, Im: one}, {Re: -one, Im: p}, {Re: p, Im: p}} {
				refused(a, b, wrong)
				// A number of 0 makes no root one that may be.
				refused(api.Cx{}, api.Cx{}, wrong)
			}
		}
	})
}

// P10.2: passes by hand: both of 1, 2, 3, 4, flipped, which make up their transform, either way.
func TestPassByHand(t *testing.T) {
	x := []api.Cx{{Re: 1}, {Re: 3}, {Re: 2}, {Re: 4}}
	for _, bits := range []int{0, 13, mostBits} {
		one := 1 << bits
		w := []api.Cx{{Re: one}, {Im: -one}, {Re: -one}, {Im: one}}
		for inverse, want := range map[bool][]api.Cx{
			false: {{Re: 10}, {Re: -2, Im: 2}, {Re: -2}, {Re: -2, Im: -2}},
			true:  {{Re: 10}, {Re: -2, Im: -2}, {Re: -2}, {Re: -2, Im: 2}},
		} {
			y := pass(t, x, w, 1, bits, 0, api.MUp, inverse)
			if first := []api.Cx{{Re: 4}, {Re: -2}, {Re: 6}, {Re: -2}}; !slices.Equal(y, first) {
				t.Errorf("the first pass, %d bits, inverse %t, is %v, not %v", bits, inverse, y, first)
			}
			if y = pass(t, y, w, 2, bits, 0, api.MUp, inverse); !slices.Equal(y, want) {
				t.Errorf("the second pass, %d bits, inverse %t, is %v, not %v", bits, inverse, y, want)
			}
		}
	}
}

// P10.2: which numbers become pairs, and of which root, by hand: a 1 in one place alone tells its root in two places.
func TestPassPlacesByHand(t *testing.T) {
	w := make([]api.Cx, 8)
	for k := range w {
		w[k] = api.Cx{Re: 100 + k, Im: 200 + k}
	}
	for h, all := range map[int][][3]int{
		1: {{0, 1, 0}, {2, 3, 0}, {4, 5, 0}, {6, 7, 0}},
		2: {{0, 2, 0}, {1, 3, 2}, {4, 6, 0}, {5, 7, 2}},
		4: {{0, 4, 0}, {1, 5, 1}, {2, 6, 2}, {3, 7, 3}},
	} {
		for _, p := range all {
			a, b, root := p[0], p[1], w[p[2]]
			for inverse, im := range map[bool]int{false: root.Im, true: -root.Im} {
				x, want := make([]api.Cx, 8), make([]api.Cx, 8)
				x[b].Re = 1 << 10
				want[a], want[b] = api.Cx{Re: root.Re, Im: im}, api.Cx{Re: -root.Re, Im: -im}
				if y := pass(t, x, w, h, 10, 0, api.MUp, inverse); !slices.Equal(y, want) {
					t.Errorf("halves %d, a number at %d, inverse %t: %v, not %v", h, b, inverse, y, want)
				}
				x, want = make([]api.Cx, 8), make([]api.Cx, 8)
				x[a].Im = 6
				want[a].Im, want[b].Im = 3, 3
				if y := pass(t, x, w, h, 10, 1, api.MUp, inverse); !slices.Equal(y, want) {
					t.Errorf("halves %d, a number at %d, inverse %t: %v, not %v", h, a, inverse, y, want)
				}
			}
		}
	}
}

// passes goes through passes of all lengths and halves, all scalings of some bits, both ways, of many numbers and roots, and of those as great as may be.
func passes(do func(x, w []api.Cx, h, bits, s, mode int, inverse bool)) {
	for _, n := range lengths {
		for _, bits := range []int{0, 1, 13, mostBits} {
			one := 1 << bits
			xs := [][]api.Cx{spread(n, bits, 32768), spread(n, n, farthest), edges(n, bits, farthest), spread(n, 7, 3)}
			ws := [][]api.Cx{spread(n, 3*n, one), edges(n, 1, one), edges(n, 2, one), spread(n, 5*n, one)}
			for k, x := range xs {
				for _, h := range halves(n) {
					for s := range mostShift + 1 {
						for _, mode := range modes {
							do(x, ws[k], h, bits, s, mode, false)
							do(x, ws[k], h, bits, s, mode, true)
						}
					}
				}
			}
		}
	}
}

// P10.2, R5: passes against numbers of any size.
func TestPassByWords(t *testing.T) {
	passes(func(x, w []api.Cx, h, bits, s, mode int, inverse bool) {
		y, want := pass(t, x, w, h, bits, s, mode, inverse), passByWords(x, w, h, bits, s, mode, inverse)
		if !slices.Equal(y, want) {
			t.Fatalf("Pass of %v, roots %v, halves %d, %d bits, by %d, mode %d, inverse %t, is %v, not %v", x, w, h, bits, s, mode, inverse, y, want)
		}
	})
}

// P10.2: so are passes in all bits that may be, of roots that are those of 1, too.
func TestPassInAllBits(t *testing.T) {
	scalings(func(bits, s, mode int) {
		for _, n := range lengths {
			log, _ := flip.Log(n)
			w, e := roots.Table(log, bits)
			if e != api.OK {
				t.Fatalf("Table of %d in %d bits: error %d", n, bits, e)
			}
			x := spread(n, bits+s, farthest)
			for _, h := range halves(n) {
				for _, inverse := range []bool{false, true} {
					if y := pass(t, x, w, h, bits, s, mode, inverse); !slices.Equal(y, passByWords(x, w, h, bits, s, mode, inverse)) {
						t.Fatalf("Pass of %v, halves %d, %d bits, by %d, mode %d, inverse %t, is %v", x, h, bits, s, mode, inverse, y)
					}
				}
			}
		}
	})
}

// P10.2: all passes in order, each halving, make numbers that are flipped their transform, divided by how many they are.
func TestPassesAreATransform(t *testing.T) {
	for _, n := range lengths {
		log, _ := flip.Log(n)
		w, e := roots.Twiddles(log, api.F31)
		if e != api.OK {
			t.Fatalf("Twiddles of %d: error %d", n, e)
		}
		x := spread(n, n, 1<<30)
		for inverse, sign := range map[bool]float64{false: -1, true: 1} {
			y, e := flip.Flip(x)
			if e != api.OK {
				t.Fatalf("Flip of %d numbers: error %d", n, e)
			}
			for _, h := range halves(n) {
				y = pass(t, y, w, h, mostBits, 1, api.MEven, inverse)
			}
			for k, z := range y {
				exact := complex(0, 0)
				for i, a := range x {
					turn := cmplx.Exp(complex(0, sign*2*math.Pi*float64(i*k%n)/float64(n)))
					exact += complex(float64(a.Re), float64(a.Im)) * turn
				}
				if far := cmplx.Abs(complex(float64(z.Re), float64(z.Im)) - exact/complex(float64(n), 0)); far > 10 {
					t.Errorf("bin %d of %d, inverse %t, is %v, %f away", k, n, inverse, z, far)
				}
			}
		}
	}
}

func refusedPass(t *testing.T, x, w []api.Cx, h, bits, s, mode int, want api.Errno) {
	t.Helper()
	for _, inverse := range []bool{false, true} {
		if y, e := two.Pass(x, w, h, bits, s, mode, inverse); len(y) != 0 || e != want {
			t.Errorf("Pass of %d numbers, %d roots, halves %d, %d bits, by %d, mode %d, inverse %t: %d numbers, error %d, not %d", len(x), len(w), h, bits, s, mode, inverse, len(y), e, want)
		}
	}
}

// beyond are n numbers with a part that may be of no number or root.
func beyond(n int) []api.Cx {
	return slices.Repeat([]api.Cx{{Re: math.MinInt, Im: 1 << 40}}, n)
}

// P10.2, R2, R3, P1: as many numbers as are no length are told, ahead of all that is wrong beside them.
func TestPassErrSize(t *testing.T) {
	for n := range 200 {
		if slices.Contains(lengths, n) {
			continue
		}
		for _, m := range []int{0, 1, 4, n, n + 1, 64} {
			refusedPass(t, spread(n, 1, 9), spread(m, 2, 1), 1, 0, 0, api.MUp, api.ErrSize)
			refusedPass(t, beyond(n), beyond(m), -1, -1, -1, -1, api.ErrSize)
			refusedPass(t, beyond(n), beyond(m), n/2, 30, 4, 3, api.ErrSize)
		}
	}
	refusedPass(t, nil, nil, 1, 0, 0, api.MUp, api.ErrSize)
	refusedPass(t, nil, spread(4, 1, 1), 1, 0, 0, api.MUp, api.ErrSize)
	refusedPass(t, spread(128, 1, 9), spread(128, 2, 1), 1, 0, 0, api.MUp, api.ErrSize)
	// What lies behind a list's end is none of its numbers.
	refusedPass(t, spread(64, 1, 9)[:3], spread(3, 2, 1), 1, 0, 0, api.MUp, api.ErrSize)
}

// P10.2, R2, R3, P1: so are less roots than numbers, or more, ahead of the rest.
func TestPassErrTable(t *testing.T) {
	for _, n := range lengths {
		x := spread(n, 1, 9)
		for _, m := range []int{0, 1, 2, 3, 4, 5, n / 2, n/2 + 1, n - 1, n + 1, 2 * n, 8, 16, 32, 64, 200} {
			if m == n {
				continue
			}
			refusedPass(t, x, spread(m, 2, 1), 1, 0, 0, api.MUp, api.ErrTable)
			refusedPass(t, beyond(n), beyond(m), -1, -1, -1, -1, api.ErrTable)
			refusedPass(t, beyond(n), beyond(m), 3, 30, 4, 3, api.ErrTable)
		}
		refusedPass(t, x, nil, 1, 0, 0, api.MUp, api.ErrTable)
		refusedPass(t, x, spread(2*n, 2, 1)[:n-1], 1, 0, 0, api.MUp, api.ErrTable)
	}
}

// P10.2, R2, P1: so are halves, bits, a shift or a mode that may not be, ahead of a part that may not be.
func TestPassErrArg(t *testing.T) {
	for _, n := range lengths {
		x, w := spread(n, 1, 9), spread(n, 2, 1)
		for _, h := range wrongHalves(n) {
			for _, bits := range []int{0, 13, mostBits} {
				refusedPass(t, x, w, h, bits, 1, api.MUp, api.ErrArg)
				refusedPass(t, beyond(n), w, h, bits, 1, api.MUp, api.ErrArg)
			}
			refusedPass(t, x, beyond(n), h, -1, 4, 3, api.ErrArg)
		}
	}
	eachWrongScaling(func(bits, s, mode int) {
		x, w := spread(8, 1, 9), spread(8, 2, 1)
		for _, h := range halves(8) {
			refusedPass(t, x, w, h, bits, s, mode, api.ErrArg)
		}
		refusedPass(t, beyond(8), w, 1, bits, s, mode, api.ErrArg)
		refusedPass(t, x, beyond(8), 4, bits, s, mode, api.ErrArg)
	})
}

// P10.2, R2, P1: so is a part out of its range, of whichever number or root it is, be that root asked for or not.
func TestPassErrRange(t *testing.T) {
	for _, n := range lengths {
		for _, bits := range []int{0, 1, 13, 28, mostBits} {
			one := 1 << bits
			x := slices.Repeat([]api.Cx{{Re: farthest, Im: -farthest}, {Re: -farthest, Im: farthest}}, n/2)
			w := slices.Repeat([]api.Cx{{Re: one, Im: -one}, {Re: -one, Im: one}}, n/2)
			for _, h := range halves(n) {
				pass(t, x, w, h, bits, 3, api.MEven, h%2 == 0)
				for k := range n {
					for _, p := range wrongParts {
						for _, wrong := range []api.Cx{{Re: p}, {Im: p}} {
							numbers := slices.Clone(x)
							numbers[k] = wrong
							refusedPass(t, numbers, w, h, bits, 3, api.MEven, api.ErrRange)
						}
					}
					for _, p := range wrongRoots(bits) {
						for _, wrong := range []api.Cx{{Re: p}, {Im: p}} {
							table := slices.Clone(w)
							table[k] = wrong
							refusedPass(t, x, table, h, bits, 3, api.MEven, api.ErrRange)
						}
					}
				}
			}
		}
	}
}

// greatest is the greatest part of numbers, without its sign.
func greatest(x ...api.Cx) int {
	m := 0
	for _, a := range x {
		m = max(m, a.Re, -a.Re, a.Im, -a.Im)
	}
	return m
}

// P10.3: no part becomes greater than 3 times the greatest one divided by 2^s, and 1.
func TestNoPartBecomesGreat(t *testing.T) {
	passes(func(x, w []api.Cx, h, bits, s, mode int, inverse bool) {
		y := pass(t, x, w, h, bits, s, mode, inverse)
		if m, far := greatest(x...), greatest(y...); far<<s > 3*m+1<<s {
			t.Fatalf("Pass of %v, halves %d, %d bits, by %d, mode %d, inverse %t: %d becomes %d", x, h, bits, s, mode, inverse, m, far)
		}
	})
	scalings(func(bits, s, mode int) {
		for _, m := range []int{1, 2, 3, 32768, farthest} {
			for k, a := range corners(m) {
				for _, w := range corners(1 << bits) {
					sum, less := pair(t, a, corners(m)[(k+s)%4], w, bits, s, mode)
					if far := greatest(sum, less); far<<s > 3*m+1<<s {
						t.Fatalf("Pair of %v, root %v, %d bits, by %d, mode %d: %d becomes %d", a, w, bits, s, mode, m, far)
					}
				}
			}
		}
	})
}

// P10.3: a pass of all zeros is that, whatever the roots are.
func TestPassOfZeros(t *testing.T) {
	passes(func(x, w []api.Cx, h, bits, s, mode int, inverse bool) {
		zeros := make([]api.Cx, len(x))
		if y := pass(t, zeros, w, h, bits, s, mode, inverse); !slices.Equal(y, zeros) {
			t.Fatalf("Pass of zeros, halves %d, %d bits, by %d, mode %d, inverse %t, is %v", h, bits, s, mode, inverse, y)
		}
	})
}

// P10.3: sum and difference together are a doubled, shifted by s, to 2, be that shift rounded or not.
func TestSumAndDifference(t *testing.T) {
	near := func(a, both, s, mode int) bool {
		far := both<<s - 2*a
		further := both - rounded(product(2, a), s, mode)
		return far <= 2<<s && far >= -2<<s && further <= 2 && further >= -2
	}
	scalings(func(bits, s, mode int) {
		for _, most := range []int{3, 32768, farthest} {
			as, bs, ws := spread(40, bits, most), spread(40, 50+s, most), spread(40, 90+mode, 1<<bits)
			for k, a := range as {
				sum, less := pair(t, a, bs[k], ws[k], bits, s, mode)
				if !near(a.Re, sum.Re+less.Re, s, mode) || !near(a.Im, sum.Im+less.Im, s, mode) {
					t.Fatalf("Pair of %v, %v, %v, %d bits, by %d, mode %d is %v, %v", a, bs[k], ws[k], bits, s, mode, sum, less)
				}
			}
		}
	})
}

// P10.2: a pass is the pairs of its numbers, as Pair tells them.
func TestPassIsPairs(t *testing.T) {
	for _, n := range lengths {
		x, w := spread(n, 2*n, farthest), spread(n, 9, 1<<13)
		y := pass(t, x, w, n/2, 13, 2, api.MEven, false)
		for j := range n / 2 {
			sum, less := pair(t, x[j], x[n/2+j], w[j], 13, 2, api.MEven)
			if y[j] != sum || y[n/2+j] != less {
				t.Errorf("of %d numbers pair %d is %v, %v, not %v, %v", n, j, y[j], y[n/2+j], sum, less)
			}
		}
	}
}

// R4, and the language's rule 7: numbers and roots handed in stay as they were, and those answered are apart from them.
func TestNumbersStay(t *testing.T) {
	for _, n := range lengths {
		numbers, table := spread(n+8, n, farthest), spread(n+8, 3, 1<<13)
		x, w := numbers[:n], table[:n]
		wasX, wasW := slices.Clone(numbers), slices.Clone(table)
		for _, h := range halves(n) {
			for _, inverse := range []bool{false, true} {
				y := pass(t, x, w, h, 13, 1, api.MUp, inverse)
				clear(y[:cap(y)])
				if !slices.Equal(numbers, wasX) || !slices.Equal(table, wasW) {
					t.Fatalf("Pass of %d numbers, halves %d, inverse %t, shares with those handed in, or changes them", n, h, inverse)
				}
				refusedPass(t, x, w, h, 12, 1, api.MUp, api.ErrRange)
				if !slices.Equal(numbers, wasX) || !slices.Equal(table, wasW) {
					t.Fatalf("Pass of %d numbers, halves %d, inverse %t, that may not be, changes them", n, h, inverse)
				}
			}
		}
		// One list may be both: numbers that are roots as well.
		if y := pass(t, w, w, 1, 13, 0, api.MUp, true); !slices.Equal(y, passByWords(w, w, 1, 13, 0, api.MUp, true)) {
			t.Errorf("Pass of %d numbers that are the roots is %v", n, y)
		}
	}
}

// R1: a call tells the same, whatever was called ahead of it, and whatever was done with what it told.
func TestNothingIsKept(t *testing.T) {
	x, w := spread(16, 1, farthest), spread(16, 2, 1<<29)
	want := pass(t, x, w, 4, 29, 1, api.MEven, true)
	for range 3 {
		y := pass(t, x, w, 4, 29, 1, api.MEven, true)
		if !slices.Equal(y, want) {
			t.Fatalf("Pass is first %v, then %v", want, y)
		}
		clear(y)
		pass(t, w, w, 8, 29, 3, api.MFloor, false)
		refusedPass(t, x, w, 4, 28, 1, api.MEven, api.ErrRange)
		refusedPass(t, x, w, 5, 29, 1, api.MEven, api.ErrArg)
		sum, less := pair(t, api.Cx{Re: 3}, api.Cx{Re: 1}, api.Cx{Re: 1}, 0, 1, api.MEven)
		if sum != (api.Cx{Re: 2}) || less != (api.Cx{Re: 1}) {
			t.Errorf("Pair of 3, 1, 1 is %v, %v", sum, less)
		}
	}
}
