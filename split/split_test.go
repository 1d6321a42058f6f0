package split_test

import (
	"math"
	"math/big"
	"math/cmplx"
	"slices"
	"testing"

	"headroom/api"
	"headroom/flip"
	"headroom/roots"
	"headroom/split"
)

// The edges that the document names: of joined numbers' parts, and of roots' bits.
const (
	farthest = 1 << 31
	mostBits = 29
)

// modes, lengths and formats are all that there are.
var (
	modes   = []int{api.MFloor, api.MUp, api.MEven}
	lengths = []int{4, 8, 16, 32, 64}
	formats = []int{api.F15, api.F31}
)

// extremes are numbers that are far from all that may be.
var extremes = []int{math.MinInt, math.MinInt + 1, -1 << 62, -1 << 33, 1<<32 + 1, 1 << 33, 1<<61 + 1, 1 << 62, math.MaxInt - 1, math.MaxInt}

// The others are next to those that may be, and far from them.
var (
	wrongModes   = append([]int{-1, -2, 3, 4, 256}, extremes...)
	wrongFormats = append([]int{-1, -2, 2, 3, 15, 31, 256}, extremes...)
	wrongBits    = append([]int{-1, -2, -29, mostBits + 1, mostBits + 2, 32, 60, 61, 62, 63, 64, 65, 128, 256 + 13}, extremes...)
	wrongParts   = append([]int{farthest + 1, -farthest - 1, farthest + 2, -farthest - 2, 1 << 32, -1 << 32}, extremes...)
)

// wrongRoots are parts that roots in so many bits may not have.
func wrongRoots(bits int) []int {
	one := 1 << bits
	return append([]int{one + 1, -one - 1, one + 2, -one - 2, 2*one + 1, -2*one - 1, farthest, -farthest}, extremes...)
}

// mantissaBits are a format's, by the document; half is the greatest part that its numbers may have in a transform.
func mantissaBits(format int) int {
	if format == api.F31 {
		return 31
	}
	return 15
}

func half(format int) int { return 1 << (mantissaBits(format) - 1) }

// ways goes through all formats and modes, forward and inverse.
func ways(do func(format, mode int, inverse bool)) {
	for _, format := range formats {
		for _, mode := range modes {
			do(format, mode, false)
			do(format, mode, true)
		}
	}
}

// spread are n numbers of which no part is greater than most, either way: many kinds of them, the same in each run.
func spread(n, seed, most int) []api.Cx {
	state := uint64(seed)*2654435761 + 12345
	part := func() int {
		state = state*6364136223846793005 + 1442695040888963407
		return int(state>>20)%(2*most+1) - most
	}
	x := make([]api.Cx, n)
	for k := range x {
		x[k].Re = part()
		x[k].Im = part()
	}
	return x
}

// corner is a number whose parts are as great as may be, of signs that a code tells.
func corner(code, most int) api.Cx {
	return [4]api.Cx{{Re: most, Im: most}, {Re: most, Im: -most}, {Re: -most, Im: most}, {Re: -most, Im: -most}}[code&3]
}

// edges are n numbers, corners of which some have a part of 0, or of 1 less.
func edges(n, seed, most int) []api.Cx {
	x := make([]api.Cx, n)
	for k := range x {
		a := corner(k+seed+k*seed/3, most)
		switch (k*7 + seed) % 5 {
		case 1:
			a.Re = 0
		case 2:
			a.Im = 0
		case 3:
			a.Re -= a.Re / most
		}
		x[k] = a
	}
	return x
}

// six are what is joined: u, v, y and z, and the roots w and w3.
type six [6]api.Cx

// cornered are the greatest ones, of signs that a code tells.
func cornered(code, most, one int) six {
	var s six
	for k := range s {
		limit := most
		if k >= 4 {
			limit = one
		}
		s[k] = corner(code>>(2*k), limit)
	}
	return s
}

func sixOf(numbers, twoRoots []api.Cx) six { return six(slices.Concat(numbers[:4], twoRoots[:2])) }

func (s six) join(bits, mode int, inverse bool) ([4]api.Cx, api.Errno) {
	return split.Join(s[0], s[1], s[2], s[3], s[4], s[5], bits, mode, inverse)
}

func joined(t *testing.T, s six, bits, mode int, inverse bool) [4]api.Cx {
	t.Helper()
	y, e := s.join(bits, mode, inverse)
	if e != api.OK {
		t.Fatalf("Join of %v, %d bits, mode %d, inverse %t: error %d", s, bits, mode, inverse, e)
	}
	return y
}

func run(t *testing.T, x []api.Cx, format, mode int, inverse bool) []api.Cx {
	t.Helper()
	y, e := split.Run(x, format, mode, inverse)
	if e != api.OK || len(y) != len(x) {
		t.Fatalf("Run of %d numbers, format %d, mode %d, inverse %t: %d numbers, error %d", len(x), format, mode, inverse, len(y), e)
	}
	return y
}

func twiddles(t *testing.T, n, format int) []api.Cx {
	t.Helper()
	log, e := flip.Log(n)
	if e != api.OK {
		t.Fatalf("Log of %d: error %d", n, e)
	}
	w, e := roots.Twiddles(log, format)
	if e != api.OK {
		t.Fatalf("Twiddles of %d, format %d: error %d", n, format, e)
	}
	return w
}

// rounded is x divided by 2^s, by how far the two whole numbers next to it are.
func rounded(x *big.Int, s, mode int) int {
	unit := new(big.Int).Lsh(big.NewInt(1), uint(s))
	less, left := new(big.Int).DivMod(x, unit, new(big.Int))
	lacking := new(big.Int).Sub(unit, left)
	n := int(less.Int64())
	switch {
	case mode == api.MFloor || left.Cmp(lacking) < 0:
		return n
	case left.Cmp(lacking) > 0 || mode == api.MUp || n%2 != 0:
		return n + 1
	}
	return n
}

// great is a complex number of parts of any size.
type great struct {
	re *big.Int
	im *big.Int
}

func greatOf(a api.Cx) great { return great{big.NewInt(int64(a.Re)), big.NewInt(int64(a.Im))} }

func (a great) times(b great) great {
	product := func(x, y *big.Int) *big.Int { return new(big.Int).Mul(x, y) }
	return great{
		new(big.Int).Sub(product(a.re, b.re), product(a.im, b.im)),
		new(big.Int).Add(product(a.re, b.im), product(a.im, b.re)),
	}
}

func (a great) and(b great) great {
	return great{new(big.Int).Add(a.re, b.re), new(big.Int).Add(a.im, b.im)}
}

func (a great) less(b great) great {
	return great{new(big.Int).Sub(a.re, b.re), new(big.Int).Sub(a.im, b.im)}
}

func (a great) shifted(s, mode int) api.Cx {
	return api.Cx{Re: rounded(a.re, s, mode), Im: rounded(a.im, s, mode)}
}

// joinedByWords are the four by the document's words, in numbers that can't run over.
func joinedByWords(s six, bits, mode int, inverse bool) [4]api.Cx {
	t := greatOf(s[2]).times(greatOf(s[4]))
	t3 := greatOf(s[3]).times(greatOf(s[5]))
	turn := greatOf(api.Cx{Im: -1})
	if inverse {
		turn = greatOf(api.Cx{Im: 1})
	}
	p, d := t.and(t3), t.less(t3).times(turn)
	double := greatOf(api.Cx{Re: 2 << bits})
	u, v := greatOf(s[0]).times(double), greatOf(s[1]).times(double)
	return [4]api.Cx{
		u.and(p).shifted(bits+2, mode), v.and(d).shifted(bits+2, mode),
		u.less(p).shifted(bits+2, mode), v.less(d).shifted(bits+2, mode),
	}
}

// conjugate is a's conjugate, if asked.
func conjugate(a api.Cx, asked bool) api.Cx {
	if asked {
		a.Im = -a.Im
	}
	return a
}

// conjugates are numbers' conjugates.
func conjugates(x []api.Cx) []api.Cx {
	y := make([]api.Cx, len(x))
	for k, a := range x {
		y[k] = conjugate(a, true)
	}
	return y
}

// runByWords is the transform of the numbers of some places by the document's words, with w those of the twiddles' length.
func runByWords(x []api.Cx, places []int, w []api.Cx, bits, mode int, inverse bool) []api.Cx {
	m, n := len(places), len(w)
	if m == 1 {
		return []api.Cx{x[places[0]]}
	}
	if m == 2 {
		a, b := greatOf(x[places[0]]), greatOf(x[places[1]])
		return []api.Cx{a.and(b).shifted(1, mode), a.less(b).shifted(1, mode)}
	}
	var even, first, third []int
	for k, place := range places {
		switch k % 4 {
		case 1:
			first = append(first, place)
		case 3:
			third = append(third, place)
		default:
			even = append(even, place)
		}
	}
	e := runByWords(x, even, w, bits, mode, inverse)
	f := runByWords(x, first, w, bits, mode, inverse)
	g := runByWords(x, third, w, bits, mode, inverse)
	y := make([]api.Cx, m)
	for k := 0; k < m/4; k++ {
		s := six{e[k], e[m/4+k], f[k], g[k], conjugate(w[k*n/m], inverse), conjugate(w[3*k*n/m], inverse)}
		four := joinedByWords(s, bits, mode, inverse)
		y[k], y[m/4+k], y[m/2+k], y[3*m/4+k] = four[0], four[1], four[2], four[3]
	}
	return y
}

// allPlaces are those of n numbers.
func allPlaces(n int) []int {
	var all []int
	for k := range n {
		all = append(all, k)
	}
	return all
}

// P12.1: four joined by hand; U and V are 2 times u and v, so all is divided by 4.
func TestJoinByHand(t *testing.T) {
	simple := six{{Re: 8, Im: 4}, {Re: 2, Im: -6}, {Re: 3, Im: 1}, {Re: 1, Im: -5}, {Re: 1}, {Re: 1}}
	turned := six{{Re: 5}, {Im: -3}, {Re: 1, Im: 2}, {Re: 3, Im: -1}, {Im: -2}, {Re: 1, Im: -1}}
	for _, c := range []struct {
		s          six
		bits, mode int
		want       [4]api.Cx
		inverse    [4]api.Cx
	}{
		{simple, 0, api.MFloor,
			[4]api.Cx{{Re: 5, Im: 1}, {Re: 2, Im: -4}, {Re: 3, Im: 3}, {Re: -1, Im: -3}},
			[4]api.Cx{{Re: 5, Im: 1}, {Re: -1, Im: -3}, {Re: 3, Im: 3}, {Re: 2, Im: -4}}},
		{simple, 0, api.MUp,
			[4]api.Cx{{Re: 5, Im: 1}, {Re: 3, Im: -3}, {Re: 3, Im: 3}, {Re: 0, Im: -2}},
			[4]api.Cx{{Re: 5, Im: 1}, {Re: 0, Im: -2}, {Re: 3, Im: 3}, {Re: 3, Im: -3}}},
		{simple, 0, api.MEven,
			[4]api.Cx{{Re: 5, Im: 1}, {Re: 2, Im: -4}, {Re: 3, Im: 3}, {Re: 0, Im: -2}},
			[4]api.Cx{{Re: 5, Im: 1}, {Re: 0, Im: -2}, {Re: 3, Im: 3}, {Re: 2, Im: -4}}},
		{turned, 1, api.MFloor,
			[4]api.Cx{{Re: 3, Im: -1}, {Re: 0, Im: -2}, {Re: 1, Im: 0}, {Re: -1, Im: -2}},
			[4]api.Cx{{Re: 3, Im: -1}, {Re: -1, Im: -2}, {Re: 1, Im: 0}, {Re: 0, Im: -2}}},
		{turned, 1, api.MUp,
			[4]api.Cx{{Re: 3, Im: -1}, {Re: 0, Im: -2}, {Re: 2, Im: 1}, {Re: 0, Im: -1}},
			[4]api.Cx{{Re: 3, Im: -1}, {Re: 0, Im: -1}, {Re: 2, Im: 1}, {Re: 0, Im: -2}}},
	} {
		if y := joined(t, c.s, c.bits, c.mode, false); y != c.want {
			t.Errorf("Join of %v, %d bits, mode %d is %v, not %v", c.s, c.bits, c.mode, y, c.want)
		}
		if y := joined(t, c.s, c.bits, c.mode, true); y != c.inverse {
			t.Errorf("inverse Join of %v, %d bits, mode %d is %v, not %v", c.s, c.bits, c.mode, y, c.inverse)
		}
	}
}

// P12.1: which of what is joined goes where, by hand, with roots that are no conjugates, be it inverse or not.
func TestJoinPlacesByHand(t *testing.T) {
	w, w3 := api.Cx{Re: 40, Im: -80}, api.Cx{Re: 120, Im: 160}
	for k, c := range [4][2][4]api.Cx{
		{{{Re: 512}, {}, {Re: 512}, {}}, {{Re: 512}, {}, {Re: 512}, {}}},
		{{{}, {Re: 512}, {}, {Re: 512}}, {{}, {Re: 512}, {}, {Re: 512}}},
		{{{Re: 10, Im: -20}, {Re: -20, Im: -10}, {Re: -10, Im: 20}, {Re: 20, Im: 10}}, {{Re: 10, Im: -20}, {Re: 20, Im: 10}, {Re: -10, Im: 20}, {Re: -20, Im: -10}}},
		{{{Re: 30, Im: 40}, {Re: -40, Im: 30}, {Re: -30, Im: -40}, {Re: 40, Im: -30}}, {{Re: 30, Im: 40}, {Re: 40, Im: -30}, {Re: -30, Im: -40}, {Re: -40, Im: 30}}},
	} {
		s := six{{}, {}, {}, {}, w, w3}
		s[k].Re = 1 << 10
		if y := joined(t, s, 10, api.MUp, false); y != c[0] {
			t.Errorf("Join of %v is %v, not %v", s, y, c[0])
		}
		if y := joined(t, s, 10, api.MUp, true); y != c[1] {
			t.Errorf("inverse Join of %v is %v, not %v", s, y, c[1])
		}
	}
}

// P12.1, R5: numbers and roots that are as great as may be, by hand: all together they are 3 times 2^61.
func TestGreatestJoinByHand(t *testing.T) {
	one, h := 1<<mostBits, farthest/2
	f := api.Cx{Re: farthest, Im: farthest}
	w := api.Cx{Re: one, Im: -one}
	for _, mode := range modes {
		for _, inverse := range []bool{false, true} {
			want := [4]api.Cx{{Re: 3 * h, Im: h}, {Re: h, Im: h}, {Re: -h, Im: h}, {Re: h, Im: h}}
			if y := joined(t, six{f, f, f, f, w, w}, mostBits, mode, inverse); y != want {
				t.Errorf("Join of the greatest, mode %d, inverse %t, is %v, not %v", mode, inverse, y, want)
			}
			want = [4]api.Cx{{Re: h, Im: h}, {Re: h, Im: -h}, {Re: h, Im: h}, {Re: h, Im: 3 * h}}
			if inverse {
				want[1], want[3] = want[3], want[1]
			}
			opposite := api.Cx{Re: -farthest, Im: -farthest}
			if y := joined(t, six{f, f, f, opposite, w, w}, mostBits, mode, inverse); y != want {
				t.Errorf("Join of the greatest, one of them the opposite, mode %d, inverse %t, is %v, not %v", mode, inverse, y, want)
			}
		}
	}
}

// checkJoin holds four joined, both ways, against the words.
func checkJoin(t *testing.T, s six, bits, mode int) {
	t.Helper()
	for _, inverse := range []bool{false, true} {
		y, want := joined(t, s, bits, mode, inverse), joinedByWords(s, bits, mode, inverse)
		if y != want {
			t.Fatalf("Join of %v, %d bits, mode %d, inverse %t, is %v, not %v", s, bits, mode, inverse, y, want)
		}
	}
}

// P12.1, R5: many numbers joined, in all bits and modes, against numbers of any size.
func TestJoinByWords(t *testing.T) {
	for bits := range mostBits + 1 {
		for _, mode := range modes {
			for k, most := range []int{1, 9, 32768, farthest} {
				for seed := range 8 {
					checkJoin(t, sixOf(spread(4, seed+bits+40*k, most), spread(2, 200+seed+mode, 1<<bits)), bits, mode)
					checkJoin(t, sixOf(edges(4, seed+bits+k, most), edges(2, seed+mode, 1<<bits)), bits, mode)
				}
				for code := range 64 {
					checkJoin(t, cornered(code*61+bits*53+k, most, 1<<bits), bits, mode)
				}
			}
		}
	}
}

// P12.1, R5: so are all that are as great as may be, of each sign of each number and each root.
func TestGreatestJoinsByWords(t *testing.T) {
	for code := range 1 << 12 {
		checkJoin(t, cornered(code, farthest, 1<<mostBits), mostBits, modes[code%3])
	}
}

// P12.1: each quotient is rounded once, behind the sum: quarters of small numbers, in all modes.
func TestJoinIsRoundedOnce(t *testing.T) {
	for re := -9; re <= 9; re++ {
		for im := -9; im <= 9; im++ {
			for bits, w := range [][2]api.Cx{{{Re: 1}, {Im: 1}}, {{Re: 1, Im: -2}, {Re: 2}}, {{Re: -3, Im: 2}, {Re: 1, Im: 1}}} {
				for _, mode := range modes {
					checkJoin(t, six{{Re: re, Im: im}, {Re: im, Im: 1 - re}, {Re: 2, Im: re}, {Re: im, Im: 3}, w[0], w[1]}, bits, mode)
				}
			}
		}
	}
}

func refusedJoin(t *testing.T, s six, bits, mode int, want api.Errno) {
	t.Helper()
	for _, inverse := range []bool{false, true} {
		if y, e := s.join(bits, mode, inverse); y != ([4]api.Cx{}) || e != want {
			t.Errorf("Join of %v, %d bits, mode %d, inverse %t, is %v, error %d, not %d", s, bits, mode, inverse, y, e, want)
		}
	}
}

// P12.1, R2, P1: bits or a mode that may not be are told, ahead of a part that may not be, and beside that is nothing.
func TestJoinErrArg(t *testing.T) {
	all := []six{{}, {{Re: 1, Im: 2}, {Re: 3, Im: 4}, {Re: 5}, {Im: 6}, {Re: 1}, {Im: 1}}}
	for k := range 6 {
		var s six
		s[k] = api.Cx{Re: math.MinInt, Im: math.MaxInt}
		all = append(all, s)
	}
	for _, s := range all {
		for _, bits := range wrongBits {
			for mode := -1; mode <= 3; mode++ {
				refusedJoin(t, s, bits, mode, api.ErrArg)
			}
		}
		for bits := -1; bits <= mostBits+1; bits++ {
			for _, mode := range wrongModes {
				refusedJoin(t, s, bits, mode, api.ErrArg)
			}
		}
	}
}

// P12.1, R2, P1: a part out of its range is told, whichever it is; a root's range is that of its bits.
func TestJoinErrRange(t *testing.T) {
	for bits := range mostBits + 1 {
		mode := modes[bits%3]
		s := cornered(bits*97, farthest, 1<<bits)
		joined(t, s, bits, mode, false)
		for k := range s {
			parts := wrongParts
			if k >= 4 {
				parts = wrongRoots(bits)
			}
			for _, p := range parts {
				for _, wrong := range []api.Cx{{Re: p}, {Im: p}, {Re: p, Im: 1}, {Re: -1, Im: p}, {Re: p, Im: p}} {
					one := s
					one[k] = wrong
					refusedJoin(t, one, bits, mode, api.ErrRange)
					// Beside zeros, too: a root is held against its range, even if its number is 0.
					alone := six{}
					alone[k] = wrong
					refusedJoin(t, alone, bits, mode, api.ErrRange)
				}
			}
		}
	}
}

// P12.2: transforms by hand; the first is the document's example.
func TestRunByHand(t *testing.T) {
	for _, c := range []struct {
		x    []api.Cx
		mode int
		want []api.Cx
	}{
		{[]api.Cx{{Re: 4}, {Re: 4}, {Re: 4}, {Re: 4}}, api.MFloor, []api.Cx{{Re: 4}, {}, {}, {}}},
		{[]api.Cx{{Re: 4}, {Re: 8}, {Re: 12}, {Re: 16}}, api.MUp, []api.Cx{{Re: 10}, {Re: -2, Im: 2}, {Re: -2}, {Re: -2, Im: -2}}},
		{[]api.Cx{{}, {}, {}, {Im: 4}}, api.MEven, []api.Cx{{Im: 1}, {Re: -1}, {Im: -1}, {Re: 1}}},
		{[]api.Cx{{}, {}, {Re: 4, Im: 8}, {}}, api.MEven, []api.Cx{{Re: 1, Im: 2}, {Re: -1, Im: -2}, {Re: 1, Im: 2}, {Re: -1, Im: -2}}},
		// The two even ones are rounded ahead of all four: of 3 and 0 half is 1, 2 and 2, by the modes.
		{[]api.Cx{{Re: 3}, {}, {}, {}}, api.MFloor, []api.Cx{{}, {}, {}, {}}},
		{[]api.Cx{{Re: 3}, {}, {}, {}}, api.MUp, []api.Cx{{Re: 1}, {Re: 1}, {Re: 1}, {Re: 1}}},
		{[]api.Cx{{Re: 3}, {}, {Re: 2}, {}}, api.MFloor, []api.Cx{{Re: 1}, {}, {Re: 1}, {}}},
		{[]api.Cx{{Re: 3}, {}, {Re: 2}, {}}, api.MUp, []api.Cx{{Re: 2}, {Re: 1}, {Re: 2}, {Re: 1}}},
		{[]api.Cx{{Re: 3}, {}, {Re: 2}, {}}, api.MEven, []api.Cx{{Re: 1}, {}, {Re: 1}, {}}},
	} {
		for _, format := range formats {
			if y := run(t, c.x, format, c.mode, false); !slices.Equal(y, c.want) {
				t.Errorf("Run of %v, format %d, mode %d is %v, not %v", c.x, format, c.mode, y, c.want)
			}
			// Of conjugates the inverse has the conjugates (none of these has an Im that is rounded).
			if y := run(t, conjugates(c.x), format, c.mode, true); !slices.Equal(y, conjugates(c.want)) {
				t.Errorf("inverse Run of %v, format %d, mode %d is %v, not %v", conjugates(c.x), format, c.mode, y, conjugates(c.want))
			}
		}
	}
}

// P12.2: one number of eight alone, by hand: it is of the places 1 and 5, and every other bin is of a root of 1 that is rounded.
func TestRunOfOneOfEightByHand(t *testing.T) {
	x := make([]api.Cx, 8)
	x[5].Re = 1 << 14
	for mode, want := range map[int][]api.Cx{
		api.MFloor: {{Re: 2048}, {Re: -1449, Im: 1448}, {Im: -2048}, {Re: 1448, Im: 1448}, {Re: -2048}, {Re: 1448, Im: -1449}, {Im: 2048}, {Re: -1449, Im: -1449}},
		api.MUp:    {{Re: 2048}, {Re: -1448, Im: 1448}, {Im: -2048}, {Re: 1448, Im: 1448}, {Re: -2048}, {Re: 1448, Im: -1448}, {Im: 2048}, {Re: -1448, Im: -1448}},
	} {
		if y := run(t, x, api.F15, mode, false); !slices.Equal(y, want) {
			t.Errorf("Run of %v, mode %d, is %v, not %v", x, mode, y, want)
		}
	}
	want := []api.Cx{{Re: 2048}, {Re: -1449, Im: -1449}, {Im: 2048}, {Re: 1448, Im: -1449}, {Re: -2048}, {Re: 1448, Im: 1448}, {Im: -2048}, {Re: -1449, Im: 1448}}
	if y := run(t, x, api.F15, api.MFloor, true); !slices.Equal(y, want) {
		t.Errorf("inverse Run of %v is %v, not %v", x, y, want)
	}
}

// samples are n numbers of each kind that a format's transform may have: spread and at the edges, great and small.
func samples(n, format int) [][]api.Cx {
	most := half(format)
	var all [][]api.Cx
	for seed := range 6 {
		all = append(all, spread(n, seed+n, most), edges(n, seed, most), spread(n, seed, 9))
	}
	for code := range 4 {
		all = append(all, slices.Repeat([]api.Cx{corner(code, most)}, n))
	}
	return all
}

// P12.2, R5: transforms of all lengths, formats and modes, both ways, against numbers of any size.
func TestRunByWords(t *testing.T) {
	ways(func(format, mode int, inverse bool) {
		for _, n := range lengths {
			w := twiddles(t, n, format)
			for _, x := range samples(n, format) {
				y, want := run(t, x, format, mode, inverse), runByWords(x, allPlaces(n), w, mantissaBits(format)-2, mode, inverse)
				if !slices.Equal(y, want) {
					t.Fatalf("Run of %v, format %d, mode %d, inverse %t, is %v, not %v", x, format, mode, inverse, y, want)
				}
			}
		}
	})
}

// exactBin is the exact transform's bin, divided by how many numbers there are.
func exactBin(x []api.Cx, k int, inverse bool) complex128 {
	n := len(x)
	sign := -1.0
	if inverse {
		sign = 1
	}
	sum := complex(0, 0)
	for i, a := range x {
		sum += complex(float64(a.Re), float64(a.Im)) * cmplx.Exp(complex(0, sign*2*math.Pi*float64(i*k%n)/float64(n)))
	}
	return sum / complex(float64(n), 0)
}

// P12.2: the transform is near to the exact one, to 3 and a half for each doubling of the length.
func TestRunIsATransform(t *testing.T) {
	ways(func(format, mode int, inverse bool) {
		for log := api.MinLog; log <= api.MaxLog; log++ {
			most := 3.5 * float64(log)
			for _, x := range samples(1<<log, format) {
				for k, z := range run(t, x, format, mode, inverse) {
					exact := exactBin(x, k, inverse)
					if math.Abs(float64(z.Re)-real(exact)) > most || math.Abs(float64(z.Im)-imag(exact)) > most {
						t.Fatalf("Run of %v, format %d, mode %d, inverse %t, has bin %d %v, not %v", x, format, mode, inverse, k, z, exact)
					}
				}
			}
		}
	})
}

// wrongRuns goes through formats and modes of which one may not be, or both.
func wrongRuns(do func(format, mode int)) {
	for _, format := range wrongFormats {
		for mode := -1; mode <= 3; mode++ {
			do(format, mode)
		}
	}
	for format := -1; format <= 2; format++ {
		for _, mode := range wrongModes {
			do(format, mode)
		}
	}
}

func refusedRun(t *testing.T, x []api.Cx, format, mode int, want api.Errno) {
	t.Helper()
	for _, inverse := range []bool{false, true} {
		if y, e := split.Run(x, format, mode, inverse); len(y) != 0 || e != want {
			t.Errorf("Run of %d numbers, format %d, mode %d, inverse %t: %d numbers, error %d, not %d", len(x), format, mode, inverse, len(y), e, want)
		}
	}
}

// beyond are n numbers of which no part may be.
func beyond(n int) []api.Cx {
	return slices.Repeat([]api.Cx{{Re: math.MinInt, Im: 1 << 40}}, n)
}

// P12.2, R2, R3, P1: as many numbers as are no length are told, ahead of all that is wrong beside them.
func TestRunErrSize(t *testing.T) {
	for n := range 300 {
		if slices.Contains(lengths, n) {
			continue
		}
		for _, format := range formats {
			refusedRun(t, spread(n, 1, 9), format, api.MUp, api.ErrSize)
			refusedRun(t, beyond(n), format, api.MUp, api.ErrSize)
		}
		refusedRun(t, beyond(n), -1, -1, api.ErrSize)
		refusedRun(t, spread(n, 1, 9), 2, api.MUp, api.ErrSize)
		refusedRun(t, spread(n, 1, 9), api.F15, 3, api.ErrSize)
	}
	refusedRun(t, nil, api.F15, api.MUp, api.ErrSize)
	refusedRun(t, spread(1<<12, 1, 9), api.F31, api.MUp, api.ErrSize)
	// What lies behind a list's end is none of its numbers.
	refusedRun(t, spread(64, 1, 9)[:3], api.F15, api.MUp, api.ErrSize)
}

// P12.2, R2, P1: so are a format or a mode that is none, ahead of a part that may not be.
func TestRunErrArg(t *testing.T) {
	for _, n := range lengths {
		wrongRuns(func(format, mode int) {
			refusedRun(t, spread(n, 1, 9), format, mode, api.ErrArg)
			refusedRun(t, beyond(n), format, mode, api.ErrArg)
			refusedRun(t, make([]api.Cx, n), format, mode, api.ErrArg)
		})
	}
}

// P12.2, R2, P1: so is a part out of its range, of whichever number it is; those at the range's ends are not.
func TestRunErrRange(t *testing.T) {
	ways(func(format, mode int, inverse bool) {
		most := half(format)
		wrong := append([]int{most + 1, -most - 1, most + 2, -most - 2, 2*most - 1, 2 * most, -2 * most, 2*most + 1, 1 << 32, -1 << 32}, extremes...)
		for _, n := range lengths {
			x := edges(n, n+mode, most)
			run(t, x, format, mode, inverse)
			for k := range n {
				for _, p := range wrong {
					for _, a := range []api.Cx{{Re: p}, {Im: p}, {Re: p, Im: p}} {
						one := slices.Clone(x)
						one[k] = a
						refusedRun(t, one, format, mode, api.ErrRange)
					}
				}
			}
		}
	})
	// What may be in one format may not in the other.
	refusedRun(t, spread(8, 1, half(api.F31)), api.F15, api.MUp, api.ErrRange)
}

// P12.3: no part of a transform is more than 2^B, of numbers as great as may be, of many signs.
func TestNoPartBecomesGreat(t *testing.T) {
	ways(func(format, mode int, inverse bool) {
		for _, n := range lengths {
			for seed := range 200 {
				x := make([]api.Cx, n)
				for k, a := range spread(n, seed, 1<<20) {
					x[k] = corner(a.Re, half(format))
				}
				for _, z := range run(t, x, format, mode, inverse) {
					if max(z.Re, -z.Re, z.Im, -z.Im) > 2*half(format) {
						t.Fatalf("Run of %v, format %d, mode %d, inverse %t, has %v", x, format, mode, inverse, z)
					}
				}
			}
		}
	})
}

// P12.3: of the same number n times the first is that, and all others are 0.
func TestRunOfTheSame(t *testing.T) {
	ways(func(format, mode int, inverse bool) {
		most := half(format)
		all := append(spread(60, mode, most), edges(20, 1, most)...)
		all = append(all, spread(60, mode, 9)...)
		for _, n := range lengths {
			for _, a := range all {
				want := make([]api.Cx, n)
				want[0] = a
				if y := run(t, slices.Repeat([]api.Cx{a}, n), format, mode, inverse); !slices.Equal(y, want) {
					t.Fatalf("Run of %d times %v, format %d, mode %d, inverse %t, is %v", n, a, format, mode, inverse, y)
				}
			}
		}
	})
}

// P12.3: of one number, the first one, and all others 0, each is it divided by n, to 2; of zeros all are zeros.
func TestRunOfTheFirstAlone(t *testing.T) {
	ways(func(format, mode int, inverse bool) {
		most := half(format)
		all := append(spread(60, mode, most), edges(20, 1, most)...)
		all = append(all, spread(60, mode, 200)...)
		for _, n := range lengths {
			for _, a := range append(all, api.Cx{}) {
				x := make([]api.Cx, n)
				x[0] = a
				far := func(part, of int) int { return max(part*n-of, of-part*n) }
				for k, z := range run(t, x, format, mode, inverse) {
					if far(z.Re, a.Re) > 2*n || far(z.Im, a.Im) > 2*n || a == (api.Cx{}) && z != a {
						t.Fatalf("Run of %v and zeros, format %d, mode %d, inverse %t, has bin %d %v", a, format, mode, inverse, k, z)
					}
				}
			}
		}
	})
}

// P12.2: the inverse takes roots' conjugates, and turns the other way: of bins that are whole it is the forward one's, from behind.
func TestInverseIsFromBehind(t *testing.T) {
	for _, n := range lengths {
		for place := range n {
			x := make([]api.Cx, n)
			x[place] = api.Cx{Re: 1 << 30, Im: -1 << 30}
			y, z := run(t, x, api.F31, api.MEven, false), run(t, x, api.F31, api.MEven, true)
			for k := range n {
				less := api.Cx{Re: z[k].Re - y[(n-k)%n].Re, Im: z[k].Im - y[(n-k)%n].Im}
				if max(less.Re, -less.Re, less.Im, -less.Im) > 2 {
					t.Errorf("of %d numbers, a number at %d, bin %d of the inverse is %v, and that from behind %v", n, place, k, z[k], y[(n-k)%n])
				}
			}
		}
	}
}

// R4, and the language's rule 7: numbers handed in stay as they were, and those answered are apart from them.
func TestNumbersStay(t *testing.T) {
	ways(func(format, mode int, inverse bool) {
		for _, n := range lengths {
			numbers := spread(n+8, n, half(format))
			x, was := numbers[:n], slices.Clone(numbers)
			y := run(t, x, format, mode, inverse)
			clear(y[:cap(y)])
			if !slices.Equal(numbers, was) {
				t.Fatalf("Run of %d numbers shares with those handed in, or changes them", n)
			}
			refusedRun(t, x, format, 3, api.ErrArg)
			if !slices.Equal(numbers, was) {
				t.Fatalf("Run of %d numbers that may not be changes them", n)
			}
		}
	})
}

// R1: a call tells the same, whatever was called ahead of it, and whatever was done with what it told.
func TestNothingIsKept(t *testing.T) {
	x := spread(32, 1, half(api.F31))
	want := slices.Clone(run(t, x, api.F31, api.MEven, true))
	first := joined(t, six{{Re: 8, Im: 4}, {Re: 2}, {Re: 3}, {Im: 1}, {Re: 1}, {Im: 1}}, 0, api.MUp, false)
	for range 3 {
		y := run(t, x, api.F31, api.MEven, true)
		if !slices.Equal(y, want) {
			t.Fatalf("Run is first %v, then %v", want, y)
		}
		clear(y)
		run(t, x, api.F31, api.MFloor, false)
		run(t, spread(64, 2, half(api.F15)), api.F15, api.MUp, true)
		refusedRun(t, x, api.F15, api.MUp, api.ErrRange)
		if y := joined(t, six{{Re: 8, Im: 4}, {Re: 2}, {Re: 3}, {Im: 1}, {Re: 1}, {Im: 1}}, 0, api.MUp, false); y != first {
			t.Errorf("Join is first %v, then %v", first, y)
		}
	}
}
