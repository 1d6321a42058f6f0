package four_test

import (
	"math"
	"math/big"
	"math/cmplx"
	"slices"
	"testing"

	"headroom/api"
	"headroom/flip"
	"headroom/four"
	"headroom/roots"
	"headroom/two"
)

// The edges that the document names: of numbers' parts, of roots' bits, and of shifts.
const (
	farthest  = 1 << 31
	mostBits  = 29
	mostShift = 3
)

// modes and lengths are all that there are.
var (
	modes   = []int{api.MFloor, api.MUp, api.MEven}
	lengths = []int{4, 8, 16, 32, 64}
)

// extremes are numbers that are far from all that may be.
var extremes = []int{math.MinInt, math.MinInt + 1, -1 << 62, -1 << 33, 1<<32 + 1, 1 << 33, 1<<61 + 1, 1 << 62, math.MaxInt - 1, math.MaxInt}

// The others are next to those that may be, and far from them.
var (
	wrongModes  = append([]int{-1, 3, 4, 256}, extremes...)
	wrongBits   = append([]int{-1, -2, -29, mostBits + 1, mostBits + 2, 31, 32, 61, 62, 63, 64, 65, 128, 256 + 13}, extremes...)
	wrongShifts = append([]int{-1, -2, -3, mostShift + 1, mostShift + 2, 62, 63, 64, 65, 256 + 1}, extremes...)
	wrongParts  = append([]int{farthest + 1, -farthest - 1, farthest + 2, -farthest - 2, 1 << 32, -1 << 32}, extremes...)
)

// wrongQuarters are next to those that may be of n numbers, and far from them.
func wrongQuarters(n int) []int {
	all := append([]int{-1, -2, -4, -n / 4, -n, 0, n / 2, n, 2 * n, 4 * n, 1<<32 + 1, 1<<32 + n/4, 1<<62 + 1, 1<<62 + n/4}, extremes...)
	for h := 3; h < 2*n; h++ {
		if h&(h-1) != 0 {
			all = append(all, h)
		}
	}
	return all
}

// wrongRoots are parts that roots in so many bits may not have.
func wrongRoots(bits int) []int {
	one := 1 << bits
	return append([]int{one + 1, -one - 1, one + 2, -one - 2, 2*one + 1, -2*one - 1, farthest, -farthest}, extremes...)
}

// quarters are those of all passes of n numbers.
func quarters(n int) []int {
	var all []int
	for h := 1; h <= n/4; h *= 2 {
		all = append(all, h)
	}
	return all
}

// scalings goes through all bits, shifts and modes that may be.
func scalings(do func(bits, s, mode int)) {
	for bits := range mostBits + 1 {
		for s := range mostShift + 1 {
			for _, mode := range modes {
				do(bits, s, mode)
			}
		}
	}
}

// spread are n numbers of which no part is greater than most, either way: many kinds of them, the same in each run.
func spread(n, seed, most int) []api.Cx {
	state := uint64(seed)*2654435761 + 12345
	part := func() int {
		state = state*6364136223846793005 + 1442695040888963407
		return int(state>>20)%(2*most+1) - most
	}
	x := make([]api.Cx, n)
	for k := range x {
		x[k].Re = part()
		x[k].Im = part()
	}
	return x
}

// corners are the numbers whose parts are as great as may be, of each sign.
func corners(most int) []api.Cx {
	return []api.Cx{{Re: most, Im: most}, {Re: most, Im: -most}, {Re: -most, Im: most}, {Re: -most, Im: -most}}
}

// edges are n numbers, corners of which some have a part of 0, or of 1 less.
func edges(n, seed, most int) []api.Cx {
	x := make([]api.Cx, n)
	for k := range x {
		a := corners(most)[(k+seed)%4]
		switch (k*7 + seed) % 5 {
		case 1:
			a.Re = 0
		case 2:
			a.Im = 0
		case 3:
			a.Re -= a.Re / most
		}
		x[k] = a
	}
	return x
}

// cornered is a corner of each of four numbers, of a code that tells which.
func cornered(code, most int) [4]api.Cx {
	var a [4]api.Cx
	for k := range a {
		a[k] = corners(most)[code>>(2*k)&3]
	}
	return a
}

// oneEach are four roots of 1, in bits.
func oneEach(bits int) [4]api.Cx {
	one := api.Cx{Re: 1 << bits}
	return [4]api.Cx{one, one, one, one}
}

func quad(t *testing.T, a, w [4]api.Cx, bits, s, mode int, inverse bool) [4]api.Cx {
	t.Helper()
	y, e := four.Quad(a, w, bits, s, mode, inverse)
	if e != api.OK {
		t.Fatalf("Quad of %v, %v, %d bits, by %d, mode %d, inverse %t: error %d", a, w, bits, s, mode, inverse, e)
	}
	return y
}

func pass(t *testing.T, x, w []api.Cx, h, bits, s, mode int, inverse bool) []api.Cx {
	t.Helper()
	y, e := four.Pass(x, w, h, bits, s, mode, inverse)
	if e != api.OK || len(y) != len(x) {
		t.Fatalf("Pass of %d numbers, quarters %d, %d bits, by %d, mode %d: %d numbers, error %d", len(x), h, bits, s, mode, len(y), e)
	}
	return y
}

// passOfTwo is a pass of kernel 2.
func passOfTwo(t *testing.T, x, w []api.Cx, h, bits, s int, inverse bool) []api.Cx {
	t.Helper()
	y, e := two.Pass(x, w, h, bits, s, api.MEven, inverse)
	if e != api.OK {
		t.Fatalf("Pass of kernel 2, of %d numbers, halves %d, %d bits, by %d: error %d", len(x), h, bits, s, e)
	}
	return y
}

// rounded is x divided by 2^s, by how far the two whole numbers next to it are.
func rounded(x *big.Int, s, mode int) int {
	unit := new(big.Int).Lsh(big.NewInt(1), uint(s))
	less, left := new(big.Int).DivMod(x, unit, new(big.Int))
	lacking := new(big.Int).Sub(unit, left)
	n := int(less.Int64())
	switch {
	case mode == api.MFloor || left.Cmp(lacking) < 0:
		return n
	case left.Cmp(lacking) > 0 || mode == api.MUp || n%2 != 0:
		return n + 1
	}
	return n
}

// great is a complex number of parts of any size.
type great struct {
	re *big.Int
	im *big.Int
}

func greatOf(a api.Cx) great { return great{big.NewInt(int64(a.Re)), big.NewInt(int64(a.Im))} }

func (a great) times(b great) great {
	product := func(x, y *big.Int) *big.Int { return new(big.Int).Mul(x, y) }
	return great{
		new(big.Int).Sub(product(a.re, b.re), product(a.im, b.im)),
		new(big.Int).Add(product(a.re, b.im), product(a.im, b.re)),
	}
}

func (a great) and(b great) great {
	return great{new(big.Int).Add(a.re, b.re), new(big.Int).Add(a.im, b.im)}
}

// turned is a times i, n times, or times -i, if n is below 0.
func (a great) turned(n int) great {
	unit := api.Cx{Im: 1}
	if n < 0 {
		unit, n = api.Cx{Im: -1}, -n
	}
	for range n {
		a = a.times(greatOf(unit))
	}
	return a
}

// quadByWords is the quad by the document's words, in numbers that can't run over.
func quadByWords(a, w [4]api.Cx, bits, s, mode int, inverse bool) [4]api.Cx {
	t0 := greatOf(a[0]).times(greatOf(api.Cx{Re: 1 << bits}))
	t1 := greatOf(a[1]).times(greatOf(w[1]))
	t2 := greatOf(a[2]).times(greatOf(w[2]))
	t3 := greatOf(a[3]).times(greatOf(w[3]))
	var y [4]api.Cx
	for q := range y {
		sum := t0.and(t1.turned(-q)).and(t2.turned(2 * q)).and(t3.turned(q))
		if inverse {
			sum = t0.and(t1.turned(q)).and(t2.turned(2 * q)).and(t3.turned(-q))
		}
		y[q] = api.Cx{Re: rounded(sum.re, bits+s, mode), Im: rounded(sum.im, bits+s, mode)}
	}
	return y
}

// conjugate is a's conjugate, if asked.
func conjugate(a api.Cx, asked bool) api.Cx {
	if asked {
		a.Im = -a.Im
	}
	return a
}

// passByWords is the pass by the document's words: of each block, and of each of its places, the quad.
func passByWords(x, w []api.Cx, h, bits, s, mode int, inverse bool) []api.Cx {
	u := len(x) / (4 * h)
	y := make([]api.Cx, len(x))
	for block := range u {
		first := block * 4 * h
		for j := range h {
			made := quadByWords(
				[4]api.Cx{x[first+j], x[first+2*h+j], x[first+h+j], x[first+3*h+j]},
				[4]api.Cx{{}, conjugate(w[j*u], inverse), conjugate(w[2*j*u], inverse), conjugate(w[3*j*u], inverse)},
				bits, s, mode, inverse)
			for q, z := range made {
				y[first+q*h+j] = z
			}
		}
	}
	return y
}

// P11.1: quads by hand, of roots of 1; the first is the document's example.
func TestQuadByHand(t *testing.T) {
	for _, c := range []struct {
		a             [4]api.Cx
		bits, s, mode int
		want          [4]api.Cx
		inverse       [4]api.Cx
	}{
		{[4]api.Cx{{Re: 1}, {Re: 2}, {Re: 3}, {Re: 4}}, 0, 0, api.MFloor,
			[4]api.Cx{{Re: 10}, {Re: -2, Im: 2}, {Re: -2}, {Re: -2, Im: -2}}, [4]api.Cx{{Re: 10}, {Re: -2, Im: -2}, {Re: -2}, {Re: -2, Im: 2}}},
		{[4]api.Cx{{Re: 1}, {Re: 2}, {Re: 3}, {Re: 4}}, 13, 0, api.MEven,
			[4]api.Cx{{Re: 10}, {Re: -2, Im: 2}, {Re: -2}, {Re: -2, Im: -2}}, [4]api.Cx{{Re: 10}, {Re: -2, Im: -2}, {Re: -2}, {Re: -2, Im: 2}}},
		{[4]api.Cx{{Re: 1}, {Re: 2}, {Re: 3}, {Re: 4}}, 0, 2, api.MFloor,
			[4]api.Cx{{Re: 2}, {Re: -1, Im: 0}, {Re: -1}, {Re: -1, Im: -1}}, [4]api.Cx{{Re: 2}, {Re: -1, Im: -1}, {Re: -1}, {Re: -1, Im: 0}}},
		{[4]api.Cx{{Re: 1}, {Re: 2}, {Re: 3}, {Re: 4}}, 29, 2, api.MUp,
			[4]api.Cx{{Re: 3}, {Re: 0, Im: 1}, {Re: 0}, {Re: 0, Im: 0}}, [4]api.Cx{{Re: 3}, {Re: 0, Im: 0}, {Re: 0}, {Re: 0, Im: 1}}},
		{[4]api.Cx{{Re: 1}, {Re: 2}, {Re: 3}, {Re: 4}}, 13, 2, api.MEven,
			[4]api.Cx{{Re: 2}, {Re: 0, Im: 0}, {Re: 0}, {Re: 0, Im: 0}}, [4]api.Cx{{Re: 2}, {Re: 0, Im: 0}, {Re: 0}, {Re: 0, Im: 0}}},
		{[4]api.Cx{{Re: 3, Im: -5}}, 0, 0, api.MUp,
			[4]api.Cx{{Re: 3, Im: -5}, {Re: 3, Im: -5}, {Re: 3, Im: -5}, {Re: 3, Im: -5}}, [4]api.Cx{{Re: 3, Im: -5}, {Re: 3, Im: -5}, {Re: 3, Im: -5}, {Re: 3, Im: -5}}},
		{[4]api.Cx{{}, {Re: 3, Im: 4}}, 0, 0, api.MUp,
			[4]api.Cx{{Re: 3, Im: 4}, {Re: 4, Im: -3}, {Re: -3, Im: -4}, {Re: -4, Im: 3}}, [4]api.Cx{{Re: 3, Im: 4}, {Re: -4, Im: 3}, {Re: -3, Im: -4}, {Re: 4, Im: -3}}},
		{[4]api.Cx{{}, {}, {Re: 3, Im: 4}}, 0, 0, api.MUp,
			[4]api.Cx{{Re: 3, Im: 4}, {Re: -3, Im: -4}, {Re: 3, Im: 4}, {Re: -3, Im: -4}}, [4]api.Cx{{Re: 3, Im: 4}, {Re: -3, Im: -4}, {Re: 3, Im: 4}, {Re: -3, Im: -4}}},
		{[4]api.Cx{{}, {}, {}, {Re: 3, Im: 4}}, 0, 0, api.MUp,
			[4]api.Cx{{Re: 3, Im: 4}, {Re: -4, Im: 3}, {Re: -3, Im: -4}, {Re: 4, Im: -3}}, [4]api.Cx{{Re: 3, Im: 4}, {Re: 4, Im: -3}, {Re: -3, Im: -4}, {Re: -4, Im: 3}}},
	} {
		if y := quad(t, c.a, oneEach(c.bits), c.bits, c.s, c.mode, false); y != c.want {
			t.Errorf("Quad of %v, %d bits, by %d, mode %d is %v, not %v", c.a, c.bits, c.s, c.mode, y, c.want)
		}
		if y := quad(t, c.a, oneEach(c.bits), c.bits, c.s, c.mode, true); y != c.inverse {
			t.Errorf("inverse Quad of %v, %d bits, by %d, mode %d is %v, not %v", c.a, c.bits, c.s, c.mode, y, c.inverse)
		}
	}
}

// P11.1: which number is times which root, by hand: no root is a conjugate, be the quad inverse or not.
func TestQuadRootsByHand(t *testing.T) {
	w := [4]api.Cx{{Re: 101, Im: 201}, {Re: 102, Im: -202}, {Re: -103, Im: 203}, {Re: 104, Im: 204}}
	for k := range 4 {
		var a [4]api.Cx
		a[k].Re = 1 << 10
		want := w[k]
		if k == 0 {
			want = api.Cx{Re: 1 << 10}
		}
		for _, inverse := range []bool{false, true} {
			if y := quad(t, a, w, 10, 0, api.MUp, inverse); y[0] != want {
				t.Errorf("Quad of %v, inverse %t, is %v, of which the first is not %v", a, inverse, y, want)
			}
		}
	}
}

// P11.1, R5: quads of numbers and roots that are as great as may be, by hand: all terms together are 7 times 2^60, more than one of two of them.
func TestGreatestQuadsByHand(t *testing.T) {
	one := 1 << mostBits
	a := [4]api.Cx{{Re: farthest, Im: farthest}, {Re: farthest, Im: farthest}, {Re: farthest, Im: farthest}, {Re: farthest, Im: farthest}}
	w := [4]api.Cx{{}, {Re: one, Im: -one}, {Re: one, Im: -one}, {Re: one, Im: -one}}
	for s := range mostShift + 1 {
		f := farthest >> s
		want := [4]api.Cx{{Re: 7 * f, Im: f}, {Re: -f, Im: f}, {Re: -f, Im: f}, {Re: -f, Im: f}}
		for _, mode := range modes {
			if y := quad(t, a, w, mostBits, s, mode, false); y != want {
				t.Errorf("Quad of %v, %v, by %d, mode %d is %v, not %v", a, w, s, mode, y, want)
			}
		}
	}
	for k := range a {
		a[k].Re, a[k].Im = -farthest, -farthest
	}
	want := [4]api.Cx{{Re: -7 * farthest, Im: -farthest}, {Re: farthest, Im: -farthest}, {Re: farthest, Im: -farthest}, {Re: farthest, Im: -farthest}}
	if y := quad(t, a, w, mostBits, 0, api.MUp, true); y != want {
		t.Errorf("Quad of %v, %v is %v, not %v", a, w, y, want)
	}
}

// checkQuad holds a quad, both ways, against the words.
func checkQuad(t *testing.T, a, w [4]api.Cx, bits, s, mode int) {
	t.Helper()
	for _, inverse := range []bool{false, true} {
		y, want := quad(t, a, w, bits, s, mode, inverse), quadByWords(a, w, bits, s, mode, inverse)
		if y != want {
			t.Fatalf("Quad of %v, %v, %d bits, by %d, mode %d, inverse %t, is %v, not %v", a, w, bits, s, mode, inverse, y, want)
		}
	}
}

// P11.1, R5: quads of many numbers, in all scalings, against numbers of any size.
func TestQuadByWords(t *testing.T) {
	scalings(func(bits, s, mode int) {
		for k, most := range []int{1, 9, 32768, farthest} {
			a, w := spread(4, 1+bits+40*k, most), spread(4, 200+s+mode, 1<<bits)
			checkQuad(t, [4]api.Cx(a), [4]api.Cx(w), bits, s, mode)
			a, w = edges(4, bits+k, most), edges(4, s+mode, 1<<bits)
			checkQuad(t, [4]api.Cx(a), [4]api.Cx(w), bits, s, mode)
			checkQuad(t, cornered(bits*53+k, most), cornered(s*89+mode*7+bits, 1<<bits), bits, s, mode)
		}
	})
}

// P11.1, R5: so are all quads of numbers that are as great as may be, of each sign, and those of roots.
func TestGreatestQuadsByWords(t *testing.T) {
	for code := range 256 {
		checkQuad(t, cornered(code, farthest), cornered(0, 1<<mostBits), mostBits, 0, modes[code%3])
		checkQuad(t, cornered(code, farthest), cornered(code*7+3, 1<<mostBits), mostBits, code%4, modes[code%3])
		checkQuad(t, cornered(5*code, farthest), cornered(code, 1<<mostBits), mostBits, 0, modes[code%3])
		checkQuad(t, cornered(code, farthest), oneEach(mostBits), mostBits, 0, modes[code%3])
	}
}

// P11.1: each quotient is rounded once, behind the sum: halves, quarters and eighths of small numbers, in all modes.
func TestQuadIsRoundedOnce(t *testing.T) {
	for re := -9; re <= 9; re++ {
		for im := -9; im <= 9; im++ {
			a := [4]api.Cx{{Re: re, Im: im}, {Re: im, Im: 1 - re}, {Re: 2, Im: re}, {Re: im, Im: 3}}
			for _, c := range []struct {
				w    [4]api.Cx
				bits int
			}{
				{[4]api.Cx{{}, {Re: 1}, {Im: 1}, {Re: -1}}, 0},
				{[4]api.Cx{{}, {Re: 1, Im: -1}, {Re: 1}, {Im: 2}}, 1},
				{[4]api.Cx{{}, {Re: -3, Im: 2}, {Re: 1, Im: 1}, {Re: 4, Im: -3}}, 2},
			} {
				for s := range mostShift + 1 {
					for _, mode := range modes {
						checkQuad(t, a, c.w, c.bits, s, mode)
					}
				}
			}
		}
	}
}

// P11.1: the first root is not asked, whatever it is.
func TestFirstRootIsNotAsked(t *testing.T) {
	scalings(func(bits, s, mode int) {
		a, w := [4]api.Cx(spread(4, bits, farthest)), [4]api.Cx(spread(4, s+5, 1<<bits))
		want := quadByWords(a, w, bits, s, mode, s%2 == 0)
		for _, p := range append(wrongRoots(bits), 0, 1, 1<<bits) {
			for _, first := range []api.Cx{{Re: p}, {Im: p}, {Re: p, Im: p}, {Re: p, Im: -p}} {
				w[0] = first
				if y := quad(t, a, w, bits, s, mode, s%2 == 0); y != want {
					t.Fatalf("Quad of %v, %v, %d bits, by %d, mode %d, is %v, not %v", a, w, bits, s, mode, y, want)
				}
			}
		}
	})
}

func refusedQuad(t *testing.T, a, w [4]api.Cx, bits, s, mode int, want api.Errno) {
	t.Helper()
	for _, inverse := range []bool{false, true} {
		if y, e := four.Quad(a, w, bits, s, mode, inverse); y != ([4]api.Cx{}) || e != want {
			t.Errorf("Quad of %v, %v, %d bits, by %d, mode %d, inverse %t, is %v, error %d, not %d", a, w, bits, s, mode, inverse, y, e, want)
		}
	}
}

// P11.1, R2, P1: bits, a shift or a mode that may not be is told, ahead of a part that may not be, and beside that is nothing.
func TestQuadErrArg(t *testing.T) {
	eachWrongScaling(func(bits, s, mode int) {
		for _, c := range [][2][4]api.Cx{
			{},
			{{{Re: 1, Im: 2}, {Re: 3, Im: 4}, {Re: 5}, {Im: 6}}, oneEach(0)},
			{{{Re: farthest + 1}, {Re: 3}}, oneEach(0)},
			{{{Re: 3}, {}, {}, {Im: math.MinInt}}, {}},
			{{{Re: 3}}, {{}, {}, {Im: math.MaxInt}}},
		} {
			refusedQuad(t, c[0], c[1], bits, s, mode, api.ErrArg)
		}
	})
}

// eachWrongScaling goes through bits, shifts and modes of which one may not be, or more.
func eachWrongScaling(do func(bits, s, mode int)) {
	for _, bits := range wrongBits {
		for s := -1; s <= mostShift+1; s++ {
			for mode := -1; mode <= 3; mode++ {
				do(bits, s, mode)
			}
		}
		// Together they would be bits and a shift that may be.
		do(bits, -bits, api.MUp)
		do(bits, 3-bits, api.MUp)
	}
	for _, bits := range []int{0, 1, 13, 28, mostBits} {
		for _, s := range wrongShifts {
			for mode := -1; mode <= 3; mode++ {
				do(bits, s, mode)
			}
		}
		for s := range mostShift + 1 {
			for _, mode := range wrongModes {
				do(bits, s, mode)
			}
		}
	}
}

// P11.1, R2, P1: a part out of its range is told, whichever it is; a root's range is that of its bits.
func TestQuadErrRange(t *testing.T) {
	scalings(func(bits, s, mode int) {
		a, w := cornered(bits+s, farthest), cornered(7*bits+mode, 1<<bits)
		quad(t, a, w, bits, s, mode, false)
		for k := range 4 {
			for _, p := range wrongParts {
				for _, wrong := range []api.Cx{{Re: p}, {Im: p}, {Re: p, Im: 1}, {Re: -1, Im: p}, {Re: p, Im: p}} {
					numbers := a
					numbers[k] = wrong
					refusedQuad(t, numbers, w, bits, s, mode, api.ErrRange)
				}
			}
			if k == 0 {
				continue
			}
			for _, p := range wrongRoots(bits) {
				for _, wrong := range []api.Cx{{Re: p}, {Im: p}, {Re: p, Im: 1 << bits}, {Re: -1 << bits, Im: p}, {Re: p, Im: p}} {
					table := w
					table[k] = wrong
					refusedQuad(t, a, table, bits, s, mode, api.ErrRange)
					// Numbers of 0 make no root one that may be.
					refusedQuad(t, [4]api.Cx{}, table, bits, s, mode, api.ErrRange)
				}
			}
		}
	})
}

// P11.2: a pass by hand: that of 1, 2, 3, 4, flipped, which makes up their transform, either way.
func TestPassByHand(t *testing.T) {
	x := []api.Cx{{Re: 1}, {Re: 3}, {Re: 2}, {Re: 4}}
	for _, bits := range []int{0, 13, mostBits} {
		one := 1 << bits
		w := []api.Cx{{Re: one}, {Im: -one}, {Re: -one}, {Im: one}}
		for inverse, want := range map[bool][]api.Cx{
			false: {{Re: 10}, {Re: -2, Im: 2}, {Re: -2}, {Re: -2, Im: -2}},
			true:  {{Re: 10}, {Re: -2, Im: -2}, {Re: -2}, {Re: -2, Im: 2}},
		} {
			if y := pass(t, x, w, 1, bits, 0, api.MUp, inverse); !slices.Equal(y, want) {
				t.Errorf("the pass, %d bits, inverse %t, is %v, not %v", bits, inverse, y, want)
			}
		}
	}
}

// place is one of a quad in a pass: which of the four numbers stands there, which root it asks for, and the four places that it goes to.
type place struct {
	at   int
	k    int
	root int
	to   [4]int
}

// places16 are places of 16 numbers, by hand: of quarters 1 those of the first block and the last one, of quarters 2 of all but one quad, of quarters 4 all.
var places16 = map[int][]place{
	1: {
		{0, 0, 0, [4]int{0, 1, 2, 3}}, {1, 2, 0, [4]int{0, 1, 2, 3}}, {2, 1, 0, [4]int{0, 1, 2, 3}}, {3, 3, 0, [4]int{0, 1, 2, 3}},
		{12, 0, 0, [4]int{12, 13, 14, 15}}, {13, 2, 0, [4]int{12, 13, 14, 15}}, {14, 1, 0, [4]int{12, 13, 14, 15}}, {15, 3, 0, [4]int{12, 13, 14, 15}},
	},
	2: {
		{0, 0, 0, [4]int{0, 2, 4, 6}}, {2, 2, 0, [4]int{0, 2, 4, 6}}, {4, 1, 0, [4]int{0, 2, 4, 6}}, {6, 3, 0, [4]int{0, 2, 4, 6}},
		{1, 0, 0, [4]int{1, 3, 5, 7}}, {3, 2, 4, [4]int{1, 3, 5, 7}}, {5, 1, 2, [4]int{1, 3, 5, 7}}, {7, 3, 6, [4]int{1, 3, 5, 7}},
		{9, 0, 0, [4]int{9, 11, 13, 15}}, {11, 2, 4, [4]int{9, 11, 13, 15}}, {13, 1, 2, [4]int{9, 11, 13, 15}}, {15, 3, 6, [4]int{9, 11, 13, 15}},
	},
	4: {
		{0, 0, 0, [4]int{0, 4, 8, 12}}, {4, 2, 0, [4]int{0, 4, 8, 12}}, {8, 1, 0, [4]int{0, 4, 8, 12}}, {12, 3, 0, [4]int{0, 4, 8, 12}},
		{1, 0, 0, [4]int{1, 5, 9, 13}}, {5, 2, 2, [4]int{1, 5, 9, 13}}, {9, 1, 1, [4]int{1, 5, 9, 13}}, {13, 3, 3, [4]int{1, 5, 9, 13}},
		{2, 0, 0, [4]int{2, 6, 10, 14}}, {6, 2, 4, [4]int{2, 6, 10, 14}}, {10, 1, 2, [4]int{2, 6, 10, 14}}, {14, 3, 6, [4]int{2, 6, 10, 14}},
		{3, 0, 0, [4]int{3, 7, 11, 15}}, {7, 2, 6, [4]int{3, 7, 11, 15}}, {11, 1, 3, [4]int{3, 7, 11, 15}}, {15, 3, 9, [4]int{3, 7, 11, 15}},
	},
}

// turnedTable are, of a root's Re and Im, the numbers that a 1 in place k of a quad makes, forward; of k 0 the root is 1, and not asked.
func turnedTable(k, re, im int) [4]api.Cx {
	switch k {
	case 1:
		return [4]api.Cx{{Re: re, Im: im}, {Re: im, Im: -re}, {Re: -re, Im: -im}, {Re: -im, Im: re}}
	case 2:
		return [4]api.Cx{{Re: re, Im: im}, {Re: -re, Im: -im}, {Re: re, Im: im}, {Re: -re, Im: -im}}
	case 3:
		return [4]api.Cx{{Re: re, Im: im}, {Re: -im, Im: re}, {Re: -re, Im: -im}, {Re: im, Im: -re}}
	}
	return [4]api.Cx{{Re: 1 << 10}, {Re: 1 << 10}, {Re: 1 << 10}, {Re: 1 << 10}}
}

// P11.2: which numbers become quads, and of which roots, by hand: a 1 in one place alone tells its root in four places.
func TestPassPlacesByHand(t *testing.T) {
	w := make([]api.Cx, 16)
	for k := range w {
		w[k] = api.Cx{Re: 100 + k, Im: 200 + k}
	}
	for h, all := range places16 {
		for _, p := range all {
			x := make([]api.Cx, 16)
			x[p.at].Re = 1 << 10
			for _, inverse := range []bool{false, true} {
				want := make([]api.Cx, 16)
				for q, z := range turnedTable(p.k, w[p.root].Re, w[p.root].Im) {
					// Of an inverse one both the root and its turns are conjugates.
					want[p.to[q]] = conjugate(z, inverse)
				}
				if y := pass(t, x, w, h, 10, 0, api.MUp, inverse); !slices.Equal(y, want) {
					t.Errorf("quarters %d, a number at %d, inverse %t: %v, not %v", h, p.at, inverse, y, want)
				}
			}
		}
	}
}

// passes goes through passes of all lengths and quarters, all scalings of some bits, both ways, of many numbers and roots, and of those as great as may be.
func passes(do func(x, w []api.Cx, h, bits, s, mode int, inverse bool)) {
	for _, n := range lengths {
		for _, bits := range []int{0, 1, 13, mostBits} {
			one := 1 << bits
			xs := [][]api.Cx{spread(n, bits, 32768), spread(n, n, farthest), edges(n, bits, farthest), spread(n, 7, 3)}
			ws := [][]api.Cx{spread(n, 3*n, one), edges(n, 1, one), edges(n, 2, one), spread(n, 5*n, one)}
			for k, x := range xs {
				for _, h := range quarters(n) {
					for s := range mostShift + 1 {
						for _, mode := range modes {
							do(x, ws[k], h, bits, s, mode, false)
							do(x, ws[k], h, bits, s, mode, true)
						}
					}
				}
			}
		}
	}
}

// P11.2, R5: passes against numbers of any size.
func TestPassByWords(t *testing.T) {
	passes(func(x, w []api.Cx, h, bits, s, mode int, inverse bool) {
		y, want := pass(t, x, w, h, bits, s, mode, inverse), passByWords(x, w, h, bits, s, mode, inverse)
		if !slices.Equal(y, want) {
			t.Fatalf("Pass of %v, roots %v, quarters %d, %d bits, by %d, mode %d, inverse %t, is %v, not %v", x, w, h, bits, s, mode, inverse, y, want)
		}
	})
}

// P11.2: so are passes in all bits that may be, of roots that are those of 1, too.
func TestPassInAllBits(t *testing.T) {
	scalings(func(bits, s, mode int) {
		for _, n := range lengths {
			log, _ := flip.Log(n)
			w, e := roots.Table(log, bits)
			if e != api.OK {
				t.Fatalf("Table of %d in %d bits: error %d", n, bits, e)
			}
			x := spread(n, bits+s, farthest)
			for _, h := range quarters(n) {
				for _, inverse := range []bool{false, true} {
					if y := pass(t, x, w, h, bits, s, mode, inverse); !slices.Equal(y, passByWords(x, w, h, bits, s, mode, inverse)) {
						t.Fatalf("Pass of %v, quarters %d, %d bits, by %d, mode %d, inverse %t, is %v", x, h, bits, s, mode, inverse, y)
					}
				}
			}
		}
	})
}

// P11.2: passes in order, each taking a quarter (behind one of kernel 2, if a length is no power of 4, that halves), make numbers that are flipped their transform, divided by how many they are.
func TestPassesAreATransform(t *testing.T) {
	for _, n := range lengths {
		log, _ := flip.Log(n)
		w, e := roots.Twiddles(log, api.F31)
		if e != api.OK {
			t.Fatalf("Twiddles of %d: error %d", n, e)
		}
		x := spread(n, n, 1<<30)
		for inverse, sign := range map[bool]float64{false: -1, true: 1} {
			y, e := flip.Flip(x)
			if e != api.OK {
				t.Fatalf("Flip of %d numbers: error %d", n, e)
			}
			h := 1
			if log%2 != 0 {
				y = passOfTwo(t, y, w, 1, mostBits, 1, inverse)
				h = 2
			}
			for ; h < n; h *= 4 {
				y = pass(t, y, w, h, mostBits, 2, api.MEven, inverse)
			}
			for k, z := range y {
				exact := complex(0, 0)
				for i, a := range x {
					turn := cmplx.Exp(complex(0, sign*2*math.Pi*float64(i*k%n)/float64(n)))
					exact += complex(float64(a.Re), float64(a.Im)) * turn
				}
				if far := cmplx.Abs(complex(float64(z.Re), float64(z.Im)) - exact/complex(float64(n), 0)); far > 10 {
					t.Errorf("bin %d of %d, inverse %t, is %v, %f away", k, n, inverse, z, far)
				}
			}
		}
	}
}

func refusedPass(t *testing.T, x, w []api.Cx, h, bits, s, mode int, want api.Errno) {
	t.Helper()
	for _, inverse := range []bool{false, true} {
		if y, e := four.Pass(x, w, h, bits, s, mode, inverse); len(y) != 0 || e != want {
			t.Errorf("Pass of %d numbers, %d roots, quarters %d, %d bits, by %d, mode %d, inverse %t: %d numbers, error %d, not %d", len(x), len(w), h, bits, s, mode, inverse, len(y), e, want)
		}
	}
}

// beyond are n numbers with a part that may be of no number or root.
func beyond(n int) []api.Cx {
	return slices.Repeat([]api.Cx{{Re: math.MinInt, Im: 1 << 40}}, n)
}

// P11.2, R2, R3, P1: as many numbers as are no length are told, ahead of all that is wrong beside them.
func TestPassErrSize(t *testing.T) {
	for n := range 200 {
		if slices.Contains(lengths, n) {
			continue
		}
		for _, m := range []int{0, 1, 4, n, n + 1, 64} {
			refusedPass(t, spread(n, 1, 9), spread(m, 2, 1), 1, 0, 0, api.MUp, api.ErrSize)
			refusedPass(t, beyond(n), beyond(m), -1, -1, -1, -1, api.ErrSize)
			refusedPass(t, beyond(n), beyond(m), n/4, 30, 4, 3, api.ErrSize)
		}
	}
	refusedPass(t, nil, nil, 1, 0, 0, api.MUp, api.ErrSize)
	refusedPass(t, nil, spread(4, 1, 1), 1, 0, 0, api.MUp, api.ErrSize)
	refusedPass(t, spread(256, 1, 9), spread(256, 2, 1), 1, 0, 0, api.MUp, api.ErrSize)
	// What lies behind a list's end is none of its numbers.
	refusedPass(t, spread(64, 1, 9)[:3], spread(3, 2, 1), 1, 0, 0, api.MUp, api.ErrSize)
}

// P11.2, R2, R3, P1: so are less roots than numbers, or more, ahead of the rest.
func TestPassErrTable(t *testing.T) {
	for _, n := range lengths {
		x := spread(n, 1, 9)
		for _, m := range []int{0, 1, 2, 3, 4, 5, n / 2, n/2 + 1, 3 * n / 4, n - 1, n + 1, 2 * n, 8, 16, 32, 64, 200} {
			if m == n {
				continue
			}
			refusedPass(t, x, spread(m, 2, 1), 1, 0, 0, api.MUp, api.ErrTable)
			refusedPass(t, beyond(n), beyond(m), -1, -1, -1, -1, api.ErrTable)
			refusedPass(t, beyond(n), beyond(m), 3, 30, 4, 3, api.ErrTable)
		}
		refusedPass(t, x, nil, 1, 0, 0, api.MUp, api.ErrTable)
		refusedPass(t, x, spread(2*n, 2, 1)[:n-1], 1, 0, 0, api.MUp, api.ErrTable)
	}
}

// P11.2, R2, P1: so are quarters, bits, a shift or a mode that may not be, ahead of a part that may not be.
func TestPassErrArg(t *testing.T) {
	for _, n := range lengths {
		x, w := spread(n, 1, 9), spread(n, 2, 1)
		for _, h := range wrongQuarters(n) {
			for _, bits := range []int{0, 13, mostBits} {
				refusedPass(t, x, w, h, bits, 1, api.MUp, api.ErrArg)
				refusedPass(t, beyond(n), w, h, bits, 1, api.MUp, api.ErrArg)
			}
			refusedPass(t, x, beyond(n), h, -1, 4, 3, api.ErrArg)
		}
	}
	eachWrongScaling(func(bits, s, mode int) {
		x, w := spread(16, 1, 9), spread(16, 2, 1)
		for _, h := range quarters(16) {
			refusedPass(t, x, w, h, bits, s, mode, api.ErrArg)
		}
		refusedPass(t, beyond(16), w, 1, bits, s, mode, api.ErrArg)
		refusedPass(t, x, beyond(16), 4, bits, s, mode, api.ErrArg)
	})
}

// P11.2, R2, P1: so is a part out of its range, of whichever number or root it is, be that root asked for or not.
func TestPassErrRange(t *testing.T) {
	for _, n := range lengths {
		for _, bits := range []int{0, 1, 13, 28, mostBits} {
			one := 1 << bits
			x := slices.Repeat([]api.Cx{{Re: farthest, Im: -farthest}, {Re: -farthest, Im: farthest}}, n/2)
			w := slices.Repeat([]api.Cx{{Re: one, Im: -one}, {Re: -one, Im: one}}, n/2)
			for _, h := range quarters(n) {
				pass(t, x, w, h, bits, 3, api.MEven, h%2 == 0)
				for k := range n {
					for _, p := range wrongParts {
						for _, wrong := range []api.Cx{{Re: p}, {Im: p}} {
							numbers := slices.Clone(x)
							numbers[k] = wrong
							refusedPass(t, numbers, w, h, bits, 3, api.MEven, api.ErrRange)
						}
					}
					for _, p := range wrongRoots(bits) {
						for _, wrong := range []api.Cx{{Re: p}, {Im: p}} {
							table := slices.Clone(w)
							table[k] = wrong
							refusedPass(t, x, table, h, bits, 3, api.MEven, api.ErrRange)
						}
					}
				}
			}
		}
	}
}

// greatest is the greatest part of numbers, without its sign.
func greatest(x ...api.Cx) int {
	m := 0
	for _, a := range x {
		m = max(m, a.Re, -a.Re, a.Im, -a.Im)
	}
	return m
}

// P11.3: no part becomes greater than 7 times the greatest one divided by 2^s, and 1.
func TestNoPartBecomesGreat(t *testing.T) {
	passes(func(x, w []api.Cx, h, bits, s, mode int, inverse bool) {
		y := pass(t, x, w, h, bits, s, mode, inverse)
		if m, far := greatest(x...), greatest(y...); far<<s > 7*m+1<<s {
			t.Fatalf("Pass of %v, quarters %d, %d bits, by %d, mode %d, inverse %t: %d becomes %d", x, h, bits, s, mode, inverse, m, far)
		}
	})
	scalings(func(bits, s, mode int) {
		for _, m := range []int{1, 2, 3, 32768, farthest} {
			for code := range 64 {
				a, w := cornered(code*5+bits, m), cornered(code*3+s, 1<<bits)
				y := quad(t, a, w, bits, s, mode, code%2 == 0)
				if far := greatest(y[:]...); far<<s > 7*m+1<<s {
					t.Fatalf("Quad of %v, %v, %d bits, by %d, mode %d: %d becomes %d", a, w, bits, s, mode, m, far)
				}
			}
		}
	})
}

// P11.3: a pass of all zeros is that, whatever the roots are.
func TestPassOfZeros(t *testing.T) {
	passes(func(x, w []api.Cx, h, bits, s, mode int, inverse bool) {
		zeros := make([]api.Cx, len(x))
		if y := pass(t, zeros, w, h, bits, s, mode, inverse); !slices.Equal(y, zeros) {
			t.Fatalf("Pass of zeros, quarters %d, %d bits, by %d, mode %d, inverse %t, is %v", h, bits, s, mode, inverse, y)
		}
	})
}

// P11.3: with roots of 1 a quad, not shifted, is two passes of pairs (of the four numbers flipped).
func TestQuadIsTwoPassesOfPairs(t *testing.T) {
	for bits := range mostBits + 1 {
		w, e := roots.Table(2, bits)
		if e != api.OK {
			t.Fatalf("Table of 4 in %d bits: error %d", bits, e)
		}
		for k, most := range []int{1, 9, 32768, farthest / 2} {
			for _, x := range [][]api.Cx{spread(4, bits+k, most), edges(4, bits+k, most)} {
				for _, inverse := range []bool{false, true} {
					a := [4]api.Cx{x[0], x[2], x[1], x[3]}
					pairs := passOfTwo(t, passOfTwo(t, x, w, 1, bits, 0, inverse), w, 2, bits, 0, inverse)
					for _, mode := range modes {
						if y := quad(t, a, oneEach(bits), bits, 0, mode, inverse); !slices.Equal(y[:], pairs) {
							t.Fatalf("Quad of %v, %d bits, mode %d, inverse %t, is %v, and two passes of pairs are %v", a, bits, mode, inverse, y, pairs)
						}
					}
				}
			}
		}
	}
}

// P11.3: so a first pass of quads, of any length, is the first two of pairs: all that either asks for are the roots of 4.
func TestFirstPassIsTwoPassesOfPairs(t *testing.T) {
	for _, n := range lengths {
		log, _ := flip.Log(n)
		w, e := roots.Twiddles(log, api.F31)
		if e != api.OK {
			t.Fatalf("Twiddles of %d: error %d", n, e)
		}
		for _, inverse := range []bool{false, true} {
			x := spread(n, n, farthest/2)
			pairs := passOfTwo(t, passOfTwo(t, x, w, 1, mostBits, 0, inverse), w, 2, mostBits, 0, inverse)
			if y := pass(t, x, w, 1, mostBits, 0, api.MFloor, inverse); !slices.Equal(y, pairs) {
				t.Errorf("the first pass of %v, inverse %t, is %v, and two passes of pairs are %v", x, inverse, y, pairs)
			}
		}
	}
}

// P11.3: all four together are 4 times the first, shifted, to 4, be that shift rounded or not.
func TestAllFourTogether(t *testing.T) {
	near := func(first, all, s, mode int) bool {
		far := all<<s - 4*first
		further := all - rounded(big.NewInt(int64(4*first)), s, mode)
		return far <= 4<<s && far >= -4<<s && further <= 4 && further >= -4
	}
	scalings(func(bits, s, mode int) {
		for _, most := range []int{3, 32768, farthest} {
			as, ws := spread(40, bits, most), spread(40, 90+mode+s, 1<<bits)
			for k := 0; k < 40; k += 4 {
				a, w := [4]api.Cx(as[k:]), [4]api.Cx(ws[k:])
				y := quad(t, a, w, bits, s, mode, k%8 == 0)
				re, im := y[0].Re+y[1].Re+y[2].Re+y[3].Re, y[0].Im+y[1].Im+y[2].Im+y[3].Im
				if !near(a[0].Re, re, s, mode) || !near(a[0].Im, im, s, mode) {
					t.Fatalf("Quad of %v, %v, %d bits, by %d, mode %d is %v", a, w, bits, s, mode, y)
				}
			}
		}
	})
}

// P11.2: a pass is the quads of its numbers, as Quad tells them of conjugates, if it is inverse.
func TestPassIsQuads(t *testing.T) {
	for _, n := range lengths {
		x, w := spread(n, 2*n, farthest), spread(n, 9, 1<<13)
		h := n / 4
		for _, inverse := range []bool{false, true} {
			y := pass(t, x, w, h, 13, 2, api.MEven, inverse)
			for j := range h {
				a := [4]api.Cx{x[j], x[2*h+j], x[h+j], x[3*h+j]}
				asked := [4]api.Cx{{}, conjugate(w[j], inverse), conjugate(w[2*j], inverse), conjugate(w[3*j], inverse)}
				want := quad(t, a, asked, 13, 2, api.MEven, inverse)
				if made := [4]api.Cx{y[j], y[h+j], y[2*h+j], y[3*h+j]}; made != want {
					t.Errorf("of %d numbers, inverse %t, quad %d is %v, not %v", n, inverse, j, made, want)
				}
			}
		}
	}
}

// R4, and the language's rule 7: numbers and roots handed in stay as they were, and those answered are apart from them.
func TestNumbersStay(t *testing.T) {
	for _, n := range lengths {
		numbers, table := spread(n+8, n, farthest), spread(n+8, 3, 1<<13)
		x, w := numbers[:n], table[:n]
		wasX, wasW := slices.Clone(numbers), slices.Clone(table)
		for _, h := range quarters(n) {
			for _, inverse := range []bool{false, true} {
				y := pass(t, x, w, h, 13, 1, api.MUp, inverse)
				clear(y[:cap(y)])
				if !slices.Equal(numbers, wasX) || !slices.Equal(table, wasW) {
					t.Fatalf("Pass of %d numbers, quarters %d, inverse %t, shares with those handed in, or changes them", n, h, inverse)
				}
				refusedPass(t, x, w, h, 12, 1, api.MUp, api.ErrRange)
				if !slices.Equal(numbers, wasX) || !slices.Equal(table, wasW) {
					t.Fatalf("Pass of %d numbers, quarters %d, inverse %t, that may not be, changes them", n, h, inverse)
				}
			}
		}
		// One list may be both: numbers that are roots as well.
		if y := pass(t, w, w, n/4, 13, 0, api.MUp, true); !slices.Equal(y, passByWords(w, w, n/4, 13, 0, api.MUp, true)) {
			t.Errorf("Pass of %d numbers that are the roots is %v", n, y)
		}
	}
}

// R1: a call tells the same, whatever was called ahead of it, and whatever was done with what it told.
func TestNothingIsKept(t *testing.T) {
	x, w := spread(16, 1, farthest), spread(16, 2, 1<<29)
	want := pass(t, x, w, 4, 29, 1, api.MEven, true)
	for range 3 {
		y := pass(t, x, w, 4, 29, 1, api.MEven, true)
		if !slices.Equal(y, want) {
			t.Fatalf("Pass is first %v, then %v", want, y)
		}
		clear(y)
		pass(t, w, w, 2, 29, 3, api.MFloor, false)
		refusedPass(t, x, w, 4, 28, 1, api.MEven, api.ErrRange)
		refusedPass(t, x, w, 5, 29, 1, api.MEven, api.ErrArg)
		first := quad(t, [4]api.Cx{{Re: 1}, {Re: 2}, {Re: 3}, {Re: 4}}, oneEach(0), 0, 0, api.MEven, false)
		if first != [4]api.Cx{{Re: 10}, {Re: -2, Im: 2}, {Re: -2}, {Re: -2, Im: -2}} {
			t.Errorf("Quad of 1, 2, 3, 4 is %v", first)
		}
	}
}
