package sat_test

import (
	"math"
	"math/big"
	"testing"

	"headroom/api"
	"headroom/sat"
)

// formats and modes are all that there are; the others are next to those, or far from them.
var (
	formats      = []int{api.F15, api.F31}
	wrongFormats = []int{-1, 2, 3, 15, 16, 31, 32, 64, 256, math.MinInt, math.MaxInt}
	modes        = []int{api.MFloor, api.MUp, api.MEven}
	wrongModes   = []int{-1, 3, 4, 256, math.MinInt, math.MaxInt}
)

// answer is what a call tells.
type answer struct {
	n   int
	was bool
	e   api.Errno
}

func told(n int, was bool, e api.Errno) answer { return answer{n, was, e} }

// refusal is what a call tells beside an error.
func refusal(e api.Errno) answer { return answer{e: e} }

// operation is a call of two mantissas (Neg's is of the first alone), and what it makes of them before that is clamped.
type operation struct {
	name  string
	call  func(a, b, format int) answer
	exact func(a, b, bits int) *big.Int
}

// operations are all of them: Mul is one in each mode.
func operations() []operation {
	all := []operation{
		{"Add",
			func(a, b, format int) answer { return told(sat.Add(a, b, format)) },
			func(a, b, _ int) *big.Int { return new(big.Int).Add(whole(a), whole(b)) }},
		{"Sub",
			func(a, b, format int) answer { return told(sat.Sub(a, b, format)) },
			func(a, b, _ int) *big.Int { return new(big.Int).Sub(whole(a), whole(b)) }},
		{"Neg",
			func(a, _, format int) answer { return told(sat.Neg(a, format)) },
			func(a, _, _ int) *big.Int { return new(big.Int).Neg(whole(a)) }},
	}
	for i, mode := range modes {
		all = append(all, operation{[]string{"Mul, MFloor", "Mul, MUp", "Mul, MEven"}[i],
			func(a, b, format int) answer { return told(sat.Mul(a, b, format, mode)) },
			func(a, b, bits int) *big.Int {
				return divided(new(big.Int).Mul(whole(a), whole(b)), bits, mode)
			}})
	}
	return all
}

func whole(x int) *big.Int { return big.NewInt(int64(x)) }

// divided is p divided by 2^bits, rounded as the document says it: of the two whole numbers about it, the less, the nearer, or of two as near the greater or the even one.
func divided(p *big.Int, bits, mode int) *big.Int {
	unit := new(big.Int).Lsh(big.NewInt(1), uint(bits))
	less, left := new(big.Int), new(big.Int)
	less.DivMod(p, unit, left)
	greater := new(big.Int).Add(less, big.NewInt(1))
	if mode == api.MFloor {
		return less
	}
	switch lacking := new(big.Int).Sub(unit, left); left.Cmp(lacking) {
	case -1:
		return less
	case 1:
		return greater
	}
	if mode == api.MEven && less.Bit(0) == 0 {
		return less
	}
	return greater
}

// edges are a format's least and greatest mantissa.
func edges(t *testing.T, format int) (int, int, int) {
	t.Helper()
	bits := map[int]int{api.F15: 15, api.F31: 31}[format]
	if bits == 0 {
		t.Fatalf("no format %d", format)
	}
	least := math.MinInt64 >> (63 - bits)
	return bits, least, -least - 1
}

// clampedTo is what comes of a number of any size.
func clampedTo(n *big.Int, least, greatest int) answer {
	if n.Cmp(whole(least)) < 0 {
		return answer{n: least, was: true}
	}
	if n.Cmp(whole(greatest)) > 0 {
		return answer{n: greatest, was: true}
	}
	return answer{n: int(n.Int64())}
}

// mantissas are near 0, near the powers of 2 and what is half as much again, and at both ends of a format.
func mantissas(t *testing.T, format int) []int {
	t.Helper()
	bits, least, greatest := edges(t, format)
	all := []int{0, 1, -1, 2, -2, 3, -3, 5, -5, 7, -7, least, least + 1, least + 2, greatest, greatest - 1, greatest - 2}
	for k := 4; k < bits; k++ {
		for _, m := range []int{1 << k, 1<<k + 1, 1<<k - 1, 1<<k | 1<<(k-1), 1<<k | 1<<(k-1) | 1, 1<<k | 1<<(k-2) | 5} {
			all = append(all, m, -m)
		}
	}
	return all
}

// noMantissas are next to a format's mantissas, and so far from them that a sum or product of two would wrap round to one.
func noMantissas(t *testing.T, format int) []int {
	t.Helper()
	_, least, greatest := edges(t, format)
	return []int{
		least - 1, greatest + 1, least - 2, greatest + 2, 2 * least, 2 * (greatest + 1),
		1 << 32, -1 << 32, 1 << 48, 1 << 62, -1 << 62, math.MinInt, math.MinInt + 1, math.MaxInt, math.MaxInt - 1,
	}
}

// P2.1: the bits of each format; what is none is told.
func TestBits(t *testing.T) {
	for format, want := range []int{15, 31} {
		if n, e := sat.Bits(format); n != want || e != api.OK {
			t.Errorf("Bits(%d) is %d, error %d, not %d", format, n, e, want)
		}
	}
	for _, format := range wrongFormats {
		if n, e := sat.Bits(format); n != 0 || e != api.ErrArg {
			t.Errorf("Bits(%d) is %d, error %d", format, n, e)
		}
	}
}

// P2.1: by hand, on both sides of both ends of each format.
func TestClampByHand(t *testing.T) {
	for _, c := range []struct {
		x, format, want int
		was             bool
	}{
		{0, api.F15, 0, false}, {1, api.F15, 1, false}, {-1, api.F15, -1, false},
		{32767, api.F15, 32767, false}, {32768, api.F15, 32767, true}, {32769, api.F15, 32767, true},
		{-32767, api.F15, -32767, false}, {-32768, api.F15, -32768, false}, {-32769, api.F15, -32768, true},
		{2147483647, api.F15, 32767, true}, {-2147483648, api.F15, -32768, true},
		{65536, api.F15, 32767, true}, {-65536, api.F15, -32768, true},
		{math.MaxInt, api.F15, 32767, true}, {math.MinInt, api.F15, -32768, true},
		{0, api.F31, 0, false}, {-7, api.F31, -7, false},
		{32768, api.F31, 32768, false}, {-32769, api.F31, -32769, false},
		{2147483647, api.F31, 2147483647, false}, {2147483648, api.F31, 2147483647, true},
		{-2147483648, api.F31, -2147483648, false}, {-2147483649, api.F31, -2147483648, true},
		{1 << 32, api.F31, 2147483647, true}, {-1 << 32, api.F31, -2147483648, true},
		{math.MaxInt, api.F31, 2147483647, true}, {math.MinInt, api.F31, -2147483648, true},
	} {
		if a := told(sat.Clamp(c.x, c.format)); a != (answer{c.want, c.was, api.OK}) {
			t.Errorf("Clamp(%d, %d) is %v, not %d, %v", c.x, c.format, a, c.want, c.was)
		}
	}
}

// P2.1: each mantissa of 16 bits and as many beside them, and numbers of any size.
func TestClampIsExact(t *testing.T) {
	for _, format := range formats {
		_, least, greatest := edges(t, format)
		xs := append(mantissas(t, format), noMantissas(t, format)...)
		for d := -1 << 16; d <= 1<<16; d++ {
			xs = append(xs, d, least+d, greatest+d)
		}
		for _, x := range xs {
			want := clampedTo(whole(x), least, greatest)
			if a := told(sat.Clamp(x, format)); a != want {
				t.Fatalf("Clamp(%d, %d) is %v, not %v", x, format, a, want)
			}
		}
	}
}

// P2.1, R2, P1: a format that is none is told, of any number, and beside that is nothing.
func TestClampErrArg(t *testing.T) {
	for _, format := range wrongFormats {
		for _, x := range []int{0, 1, -1, 32768, 1 << 31, math.MinInt, math.MaxInt} {
			if a := told(sat.Clamp(x, format)); a != refusal(api.ErrArg) {
				t.Errorf("Clamp(%d, %d) is %v", x, format, a)
			}
		}
	}
}

// P2.2: sums, differences and opposites by hand.
func TestSumsByHand(t *testing.T) {
	for _, c := range []struct {
		a, b, format  int
		add, sub, neg answer
	}{
		{1, 2, api.F15, answer{n: 3}, answer{n: -1}, answer{n: -1}},
		{-5, 3, api.F31, answer{n: -2}, answer{n: -8}, answer{n: 5}},
		{0, 0, api.F15, answer{}, answer{}, answer{}},
		{32767, 1, api.F15, answer{n: 32767, was: true}, answer{n: 32766}, answer{n: -32767}},
		{32767, 0, api.F15, answer{n: 32767}, answer{n: 32767}, answer{n: -32767}},
		{32767, -1, api.F15, answer{n: 32766}, answer{n: 32767, was: true}, answer{n: -32767}},
		{32767, 32767, api.F15, answer{n: 32767, was: true}, answer{}, answer{n: -32767}},
		{-32768, -1, api.F15, answer{n: -32768, was: true}, answer{n: -32767}, answer{n: 32767, was: true}},
		{-32768, 1, api.F15, answer{n: -32767}, answer{n: -32768, was: true}, answer{n: 32767, was: true}},
		{-32768, -32768, api.F15, answer{n: -32768, was: true}, answer{}, answer{n: 32767, was: true}},
		{0, -32768, api.F15, answer{n: -32768}, answer{n: 32767, was: true}, answer{}},
		{-1, -32768, api.F15, answer{n: -32768, was: true}, answer{n: 32767}, answer{n: 1}},
		{-32768, 32767, api.F15, answer{n: -1}, answer{n: -32768, was: true}, answer{n: 32767, was: true}},
		{32767, 1, api.F31, answer{n: 32768}, answer{n: 32766}, answer{n: -32767}},
		{2147483647, 1, api.F31, answer{n: 2147483647, was: true}, answer{n: 2147483646}, answer{n: -2147483647}},
		{-2147483648, 1, api.F31, answer{n: -2147483647}, answer{n: -2147483648, was: true}, answer{n: 2147483647, was: true}},
		{-2147483648, -2147483648, api.F31, answer{n: -2147483648, was: true}, answer{}, answer{n: 2147483647, was: true}},
	} {
		if a := told(sat.Add(c.a, c.b, c.format)); a != c.add {
			t.Errorf("Add(%d, %d, %d) is %v, not %v", c.a, c.b, c.format, a, c.add)
		}
		if a := told(sat.Sub(c.a, c.b, c.format)); a != c.sub {
			t.Errorf("Sub(%d, %d, %d) is %v, not %v", c.a, c.b, c.format, a, c.sub)
		}
		if a := told(sat.Neg(c.a, c.format)); a != c.neg {
			t.Errorf("Neg(%d, %d) is %v, not %v", c.a, c.format, a, c.neg)
		}
	}
}

// P2.2: products by hand, in each mode.
func TestMulByHand(t *testing.T) {
	for _, c := range []struct{ a, b, format, floor, up, even int }{
		{16384, 16384, api.F15, 8192, 8192, 8192},
		{16384, 1, api.F15, 0, 1, 0},
		{16384, 3, api.F15, 1, 2, 2},
		{16384, 5, api.F15, 2, 3, 2},
		{-16384, 1, api.F15, -1, 0, 0},
		{-16384, 3, api.F15, -2, -1, -2},
		{16383, 1, api.F15, 0, 0, 0},
		{16385, 1, api.F15, 0, 1, 1},
		{-16385, 1, api.F15, -1, -1, -1},
		{0, -32768, api.F15, 0, 0, 0},
		{32767, 32767, api.F15, 32766, 32766, 32766},
		{-32768, 32767, api.F15, -32767, -32767, -32767},
		{-32768, -32767, api.F15, 32767, 32767, 32767},
		{-32768, 1, api.F15, -1, -1, -1},
		{1 << 30, 1, api.F31, 0, 1, 0},
		{1 << 30, 3, api.F31, 1, 2, 2},
		{-1 << 30, 3, api.F31, -2, -1, -2},
		{1 << 30, 1 << 30, api.F31, 1 << 29, 1 << 29, 1 << 29},
		{2147483647, 2147483647, api.F31, 2147483646, 2147483646, 2147483646},
		{-2147483648, 2147483647, api.F31, -2147483647, -2147483647, -2147483647},
		{-2147483648, -2147483647, api.F31, 2147483647, 2147483647, 2147483647},
	} {
		for mode, want := range []int{c.floor, c.up, c.even} {
			if a := told(sat.Mul(c.a, c.b, c.format, mode)); a != (answer{n: want}) {
				t.Errorf("Mul(%d, %d, %d, %d) is %v, not %d", c.a, c.b, c.format, mode, a, want)
			}
		}
	}
	for _, mode := range modes {
		if a := told(sat.Mul(-32768, -32768, api.F15, mode)); a != (answer{n: 32767, was: true}) {
			t.Errorf("Mul(-32768, -32768, F15, %d) is %v", mode, a)
		}
		if a := told(sat.Mul(-2147483648, -2147483648, api.F31, mode)); a != (answer{n: 2147483647, was: true}) {
			t.Errorf("Mul(-2147483648, -2147483648, F31, %d) is %v", mode, a)
		}
	}
}

// P2.2, R5: all pairs of many mantissas, held against numbers that can't run over.
func TestOperationsAreExact(t *testing.T) {
	for _, o := range operations() {
		for _, format := range formats {
			bits, least, greatest := edges(t, format)
			all := mantissas(t, format)
			for _, a := range all {
				for _, b := range all {
					want := clampedTo(o.exact(a, b, bits), least, greatest)
					if got := o.call(a, b, format); got != want {
						t.Fatalf("%s of %d, %d, format %d, is %v, not %v", o.name, a, b, format, got, want)
					}
				}
			}
		}
	}
}

// P2.2: every mantissa of 16 bits with those at the edges and about the middle.
func TestOperationsOnEveryMantissa(t *testing.T) {
	_, least, greatest := edges(t, api.F15)
	for _, o := range operations() {
		for _, b := range []int{least, -16384, -1, 3, 16384, greatest} {
			for a := least; a <= greatest; a++ {
				want := clampedTo(o.exact(a, b, 15), least, greatest)
				if got := o.call(a, b, api.F15); got != want {
					t.Fatalf("%s of %d, %d is %v, not %v", o.name, a, b, got, want)
				}
			}
		}
	}
}

// P2.2, R2, P1: a number that is no mantissa is told, in either place, and beside that is nothing.
func TestErrRange(t *testing.T) {
	for _, o := range operations() {
		for _, format := range formats {
			_, least, greatest := edges(t, format)
			wrong := noMantissas(t, format)
			for _, w := range wrong {
				for _, m := range append([]int{0, 1, -1, least, greatest}, wrong...) {
					if a := o.call(w, m, format); a != refusal(api.ErrRange) {
						t.Errorf("%s of %d, %d, format %d, is %v", o.name, w, m, format, a)
					}
					if a := o.call(m, w, format); o.name != "Neg" && a != refusal(api.ErrRange) {
						t.Errorf("%s of %d, %d, format %d, is %v", o.name, m, w, format, a)
					}
				}
			}
		}
	}
}

// P2.2: what is no mantissa of one format may be one of the other.
func TestFormatsHaveTheirOwnMantissas(t *testing.T) {
	for _, o := range operations() {
		for _, m := range []int{32768, -32769, 2147483647, -2147483648} {
			if a := o.call(m, 0, api.F31); a.e != api.OK {
				t.Errorf("%s of %d, F31, is %v", o.name, m, a)
			}
			if a := o.call(m, 0, api.F15); a != refusal(api.ErrRange) {
				t.Errorf("%s of %d, F15, is %v", o.name, m, a)
			}
		}
	}
}

// P2.1, R2, P1: a format or a mode that is none is told ahead of a number that is no mantissa, and beside that is nothing.
func TestErrArg(t *testing.T) {
	numbers := []int{0, 1, -1, 32767, 32768, -32769, 1 << 31, math.MinInt, math.MaxInt}
	for _, a := range numbers {
		for _, b := range numbers {
			for _, format := range wrongFormats {
				for _, o := range operations() {
					if got := o.call(a, b, format); got != refusal(api.ErrArg) {
						t.Errorf("%s of %d, %d, format %d, is %v", o.name, a, b, format, got)
					}
				}
			}
			for _, mode := range wrongModes {
				for _, format := range append(formats, wrongFormats...) {
					if got := told(sat.Mul(a, b, format, mode)); got != refusal(api.ErrArg) {
						t.Errorf("Mul(%d, %d, %d, %d) is %v", a, b, format, mode, got)
					}
				}
			}
		}
	}
}

// P2.3: what comes is a mantissa: of any number by Clamp, of mantissas by the others.
func TestWhatComesIsAMantissa(t *testing.T) {
	for _, format := range formats {
		_, least, greatest := edges(t, format)
		all := mantissas(t, format)
		for _, x := range append(noMantissas(t, format), all...) {
			if a := told(sat.Clamp(x, format)); a.n < least || a.n > greatest || a.e != api.OK {
				t.Fatalf("Clamp(%d, %d) is %v", x, format, a)
			}
		}
		for _, o := range operations() {
			for _, a := range all {
				for _, b := range all {
					if got := o.call(a, b, format); got.n < least || got.n > greatest || got.e != api.OK {
						t.Fatalf("%s of %d, %d, format %d, is %v", o.name, a, b, format, got)
					}
				}
			}
		}
	}
}

// P2.3: only the least mantissa's opposite is clamped, and only its product with itself.
func TestOnlyTheLeastIsClamped(t *testing.T) {
	for _, format := range formats {
		_, least, _ := edges(t, format)
		all := mantissas(t, format)
		for _, a := range all {
			if got := told(sat.Neg(a, format)); got.was != (a == least) {
				t.Errorf("Neg(%d, %d) is %v", a, format, got)
			}
			for _, b := range all {
				for _, mode := range modes {
					if got := told(sat.Mul(a, b, format, mode)); got.was != (a == least && b == least) {
						t.Errorf("Mul(%d, %d, %d, %d) is %v", a, b, format, mode, got)
					}
				}
			}
		}
	}
}

// P2.3: Add does not hang on which is first, nor Mul.
func TestEitherMayBeFirst(t *testing.T) {
	for _, o := range operations() {
		if o.name == "Sub" || o.name == "Neg" {
			continue
		}
		for _, format := range formats {
			all := append(mantissas(t, format), noMantissas(t, format)...)
			for _, a := range all {
				for _, b := range all {
					if there, back := o.call(a, b, format), o.call(b, a, format); there != back {
						t.Fatalf("%s of %d, %d, format %d: %v, and %v", o.name, a, b, format, there, back)
					}
				}
			}
		}
	}
}

// P2.3: of a greater number no less one comes by Add.
func TestAddKeepsOrder(t *testing.T) {
	for _, format := range formats {
		_, _, greatest := edges(t, format)
		all := mantissas(t, format)
		for _, a := range all {
			for _, b := range all {
				if a == greatest {
					continue
				}
				less, more := told(sat.Add(a, b, format)), told(sat.Add(a+1, b, format))
				if less.n > more.n {
					t.Fatalf("Add, of %d, format %d: %d comes above %d", b, format, a, a+1)
				}
			}
		}
	}
}

// R1: a call tells the same, whatever was called ahead of it.
func TestNothingIsKept(t *testing.T) {
	type question struct{ operation, a, b, format int }
	all := operations()
	var asked []question
	var first []answer
	for i, o := range all {
		for _, a := range []int{-32768, -1, 0, 7, 32767, 32768, math.MinInt} {
			for _, b := range []int{-32768, 1, 32767, math.MaxInt} {
				for format := -1; format <= 2; format++ {
					asked = append(asked, question{i, a, b, format})
					first = append(first, o.call(a, b, format))
				}
			}
		}
	}
	for i := len(asked) - 1; i >= 0; i-- {
		q := asked[i]
		if again := all[q.operation].call(q.a, q.b, q.format); again != first[i] {
			t.Errorf("%v: first %v, then %v", q, first[i], again)
		}
	}
}
