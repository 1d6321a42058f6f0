package round_test

import (
	"math"
	"math/big"
	"testing"

	"headroom/api"
	"headroom/round"
)

// modes are all that there are, in order of their numbers.
var modes = []int{api.MFloor, api.MUp, api.MEven}

// wrongShifts and wrongModes are next to those that may be, and far from them.
var (
	wrongShifts = []int{-1, 63, 64, 65, 128, math.MinInt, math.MaxInt}
	wrongModes  = []int{-1, 3, 4, 256, math.MinInt, math.MaxInt}
)

// samples are numbers near 0, near the powers of 2 and what is half as much again, and at both ends of 64 bits.
func samples() []int {
	var xs []int
	for x := -40; x <= 40; x++ {
		xs = append(xs, x)
	}
	for k := 4; k < 63; k++ {
		for _, x := range []int{1 << k, 1<<k | 1<<(k-1), 1<<k | 1<<(k-2) | 1} {
			for d := -2; d <= 2; d++ {
				xs = append(xs, x+d, -x-d)
			}
		}
	}
	for d := range 5 {
		xs = append(xs, math.MinInt+d, math.MaxInt-d)
	}
	return xs
}

func pow2(s int) *big.Int { return new(big.Int).Lsh(big.NewInt(1), uint(s)) }

// floor is x divided by d, rounded down, of any size.
func floor(x, d *big.Int) *big.Int {
	q, m := new(big.Int), new(big.Int)
	q.DivMod(x, d, m) // Euclid's: of d above 0 it rounds down
	return q
}

// away is how far q times d is from x, without sign.
func away(x, q, d *big.Int) *big.Int {
	p := new(big.Int).Mul(q, d)
	return p.Abs(p.Sub(x, p))
}

// exact is the quotient rounded as the document says it, by distances.
func exact(x, d *big.Int, mode int) *big.Int {
	less := floor(x, d)
	greater := new(big.Int).Add(less, big.NewInt(1))
	if mode == api.MFloor {
		return less
	}
	switch away(x, less, d).Cmp(away(x, greater, d)) {
	case -1:
		return less
	case 1:
		return greater
	}
	if mode == api.MEven && less.Bit(0) == 0 {
		return less
	}
	return greater
}

func mustShift(t *testing.T, x, s, mode int) int {
	t.Helper()
	n, e := round.Shift(x, s, mode)
	if e != api.OK {
		t.Fatalf("Shift(%d, %d, %d): error %d", x, s, mode, e)
	}
	return n
}

// P1.1: examples of the document, and ones told by hand.
func TestShiftByHand(t *testing.T) {
	for _, c := range []struct{ x, s, floor, up, even int }{
		{-3, 1, -2, -1, -2},
		{3, 1, 1, 2, 2},
		{1, 1, 0, 1, 0},
		{-1, 1, -1, 0, 0},
		{5, 1, 2, 3, 2},
		{-5, 1, -3, -2, -2},
		{-7, 1, -4, -3, -4},
		{0, 0, 0, 0, 0},
		{0, 62, 0, 0, 0},
		{7, 0, 7, 7, 7},
		{-7, 0, -7, -7, -7},
		{5, 2, 1, 1, 1},
		{6, 2, 1, 2, 2},
		{7, 2, 1, 2, 2},
		{10, 2, 2, 3, 2},
		{-6, 2, -2, -1, -2},
		{-10, 2, -3, -2, -2},
		{-5, 2, -2, -1, -1},
		{math.MaxInt, 0, math.MaxInt, math.MaxInt, math.MaxInt},
		{math.MinInt, 0, math.MinInt, math.MinInt, math.MinInt},
		{math.MaxInt, 1, 1<<62 - 1, 1 << 62, 1 << 62},
		{math.MinInt, 1, -1 << 62, -1 << 62, -1 << 62},
		{math.MaxInt, 62, 1, 2, 2},
		{math.MinInt, 62, -2, -2, -2},
		{1 << 61, 62, 0, 1, 0},
		{1<<61 - 1, 62, 0, 0, 0},
		{1<<61 + 1, 62, 0, 1, 1},
		{-1 << 61, 62, -1, 0, 0},
		{-1<<61 - 1, 62, -1, -1, -1},
		{3 << 61, 62, 1, 2, 2},
		{-3 << 61, 62, -2, -1, -2},
	} {
		for mode, want := range []int{c.floor, c.up, c.even} {
			if n := mustShift(t, c.x, c.s, mode); n != want {
				t.Errorf("Shift(%d, %d, %d) is %d, not %d", c.x, c.s, mode, n, want)
			}
		}
	}
}

// P1.1, R5: all shifts, in all modes, of numbers of any size, held against numbers that can't run over.
func TestShiftIsExact(t *testing.T) {
	for _, x := range samples() {
		for s := 0; s <= 62; s++ {
			for _, mode := range modes {
				want := exact(big.NewInt(int64(x)), pow2(s), mode)
				if n := mustShift(t, x, s, mode); want.Cmp(big.NewInt(int64(n))) != 0 {
					t.Fatalf("Shift(%d, %d, %d) is %d, not %v", x, s, mode, n, want)
				}
			}
		}
	}
}

// P1.1, R2, P1: what may not be is told, of any number, and beside that is 0.
func TestShiftErrArg(t *testing.T) {
	refused := func(x, s, mode int) {
		if n, e := round.Shift(x, s, mode); n != 0 || e != api.ErrArg {
			t.Errorf("Shift(%d, %d, %d) is %d, error %d", x, s, mode, n, e)
		}
	}
	for _, x := range []int{0, 1, -1, 12345, math.MinInt, math.MaxInt} {
		for _, s := range wrongShifts {
			for _, mode := range append(wrongModes, modes...) {
				refused(x, s, mode)
			}
		}
		for s := 0; s <= 62; s++ {
			for _, mode := range wrongModes {
				refused(x, s, mode)
			}
		}
	}
}

// P1.2: by hand, with the ends of what may be put up.
func TestUpByHand(t *testing.T) {
	for _, c := range []struct{ x, s, want int }{
		{-3, 4, -48},
		{0, 0, 0},
		{0, 62, 0},
		{5, 0, 5},
		{1, 62, 1 << 62},
		{-1, 62, -1 << 62},
		{2, 61, 1 << 62},
		{1 << 62, 0, 1 << 62},
		{-1 << 62, 0, -1 << 62},
		{1<<31 - 1, 31, 1<<62 - 1<<31},
	} {
		if n, e := round.Up(c.x, c.s); n != c.want || e != api.OK {
			t.Errorf("Up(%d, %d) is %d, error %d, not %d", c.x, c.s, n, e, c.want)
		}
	}
	for _, c := range []struct{ x, s int }{
		{2, 62}, {-2, 62}, {3, 61}, {-3, 61}, {4, 62}, {-4, 62},
		{1<<62 + 1, 0}, {-1<<62 - 1, 0}, {math.MaxInt, 0}, {math.MinInt, 0},
		{1 << 32, 32}, {1<<32 + 1, 32}, {-1 << 32, 32}, {math.MinInt, 62}, {math.MaxInt, 62}, {math.MinInt, 1},
	} {
		if n, e := round.Up(c.x, c.s); n != 0 || e != api.ErrRange {
			t.Errorf("Up(%d, %d) is %d, error %d", c.x, c.s, n, e)
		}
	}
}

// P1.2, R5: all shifts of numbers of any size: none wraps round unseen.
func TestUpIsExact(t *testing.T) {
	greatest := pow2(62)
	for _, x := range samples() {
		for s := 0; s <= 62; s++ {
			want, told := new(big.Int).Mul(big.NewInt(int64(x)), pow2(s)), api.OK
			if want.CmpAbs(greatest) > 0 {
				want, told = new(big.Int), api.ErrRange
			}
			if n, e := round.Up(x, s); want.Cmp(big.NewInt(int64(n))) != 0 || e != told {
				t.Fatalf("Up(%d, %d) is %d, error %d, not %v, error %d", x, s, n, e, want, told)
			}
		}
	}
}

// P1.2, P1: a shift that may not be is told ahead of a number that is too great.
func TestUpErrArg(t *testing.T) {
	for _, x := range []int{0, 1, -1, 1 << 62, 1<<62 + 1, math.MinInt, math.MaxInt} {
		for _, s := range wrongShifts {
			if n, e := round.Up(x, s); n != 0 || e != api.ErrArg {
				t.Errorf("Up(%d, %d) is %d, error %d", x, s, n, e)
			}
		}
	}
}

// P1.2: by hand, on both sides of 0, and at the ends of 64 bits.
func TestDivByHand(t *testing.T) {
	for _, c := range []struct{ x, d, want int }{
		{7, 2, 3}, {-7, 2, -4}, {-8, 2, -4}, {8, 2, 4}, {0, 5, 0}, {1, 5, 0}, {-1, 5, -1}, {-5, 5, -1}, {-6, 5, -2},
		{math.MaxInt, 1, math.MaxInt}, {math.MinInt, 1, math.MinInt},
		{math.MaxInt, math.MaxInt, 1}, {math.MinInt, math.MaxInt, -2}, {-math.MaxInt, math.MaxInt, -1},
		{1, math.MaxInt, 0}, {-1, math.MaxInt, -1}, {math.MinInt, 2, -1 << 62}, {math.MinInt, 3, -3074457345618258603},
	} {
		if n, e := round.Div(c.x, c.d); n != c.want || e != api.OK {
			t.Errorf("Div(%d, %d) is %d, error %d, not %d", c.x, c.d, n, e, c.want)
		}
	}
}

// P1.2, R5: numbers of any size divided by numbers of any size.
func TestDivIsExact(t *testing.T) {
	xs := samples()
	for _, x := range xs {
		for _, d := range xs {
			if d < 1 {
				continue
			}
			want := floor(big.NewInt(int64(x)), big.NewInt(int64(d)))
			if n, e := round.Div(x, d); want.Cmp(big.NewInt(int64(n))) != 0 || e != api.OK {
				t.Fatalf("Div(%d, %d) is %d, error %d, not %v", x, d, n, e, want)
			}
		}
	}
}

// P1.2, P1: a divisor below 1 is told, of any number.
func TestDivErrArg(t *testing.T) {
	for _, x := range []int{0, 1, -1, 7, math.MinInt, math.MaxInt} {
		for _, d := range []int{0, -1, -2, -7, math.MinInt} {
			if n, e := round.Div(x, d); n != 0 || e != api.ErrArg {
				t.Errorf("Div(%d, %d) is %d, error %d", x, d, n, e)
			}
		}
	}
}

// P1.3: what is rounded is less than 1 away; by MUp and MEven not more than a half.
func TestShiftIsNear(t *testing.T) {
	for _, x := range samples() {
		for s := 0; s <= 62; s++ {
			for _, mode := range modes {
				d := pow2(s)
				far := away(big.NewInt(int64(x)), big.NewInt(int64(mustShift(t, x, s, mode))), d)
				if far.Cmp(d) >= 0 {
					t.Fatalf("Shift(%d, %d, %d) is 1 away, or more", x, s, mode)
				}
				if mode != api.MFloor && new(big.Int).Lsh(far, 1).Cmp(d) > 0 {
					t.Fatalf("Shift(%d, %d, %d) is more than a half away", x, s, mode)
				}
			}
		}
	}
}

// P1.3: a greater number is not rounded to a less one.
func TestShiftKeepsOrder(t *testing.T) {
	for _, mode := range modes {
		for s := 0; s <= 8; s++ {
			for x := -1100; x < 1100; x++ {
				if mustShift(t, x, s, mode) > mustShift(t, x+1, s, mode) {
					t.Fatalf("Shift, by %d, mode %d: %d comes above %d", s, mode, x, x+1)
				}
			}
		}
		for _, x := range samples() {
			for s := 0; s <= 62 && x < math.MaxInt; s++ {
				if mustShift(t, x, s, mode) > mustShift(t, x+1, s, mode) {
					t.Fatalf("Shift, by %d, mode %d: %d comes above %d", s, mode, x, x+1)
				}
			}
		}
	}
}

// P1.3: what is put up is shifted down again as it was, in each mode.
func TestUpAndDownAgain(t *testing.T) {
	for _, x := range samples() {
		for s := 0; s <= 62; s++ {
			n, e := round.Up(x, s)
			if e != api.OK {
				continue
			}
			for _, mode := range modes {
				if back := mustShift(t, n, s, mode); back != x {
					t.Fatalf("%d put up by %d and down in mode %d is %d", x, s, mode, back)
				}
			}
		}
	}
}

// R1: a call tells the same, whatever was called ahead of it.
func TestNothingIsKept(t *testing.T) {
	type answer struct {
		n int
		e api.Errno
	}
	shifts := []int{-1, 0, 1, 5, 62, 63}
	told := func(x, s, mode int) [3]answer {
		var a [3]answer
		a[0].n, a[0].e = round.Shift(x, s, mode)
		a[1].n, a[1].e = round.Up(x, s)
		a[2].n, a[2].e = round.Div(x, s)
		return a
	}
	type question struct{ x, s, mode int }
	var asked []question
	var first [][3]answer
	for _, x := range []int{-7, -1, 0, 1, 6, math.MinInt, math.MaxInt} {
		for _, s := range shifts {
			for mode := -1; mode <= 3; mode++ {
				asked = append(asked, question{x, s, mode})
				first = append(first, told(x, s, mode))
			}
		}
	}
	for i := len(asked) - 1; i >= 0; i-- {
		q := asked[i]
		if again := told(q.x, q.s, q.mode); again != first[i] {
			t.Errorf("%v: first %v, then %v", q, first[i], again)
		}
	}
}
