package cx_test

import (
	"math"
	"math/big"
	"testing"

	"headroom/api"
	"headroom/cx"
	"headroom/round"
)

// The edges that the document names: a wide number's greatest part, a narrow one's, and that of one of the two that are multiplied.
const (
	wide   = 1 << 61
	narrow = 1 << 31
	factor = 1 << 30
)

// modes are all that there are; the others, and the shifts, are next to those that may be, or far from them.
var (
	modes       = []int{api.MFloor, api.MUp, api.MEven}
	wrongModes  = []int{-1, 3, 4, 256, math.MinInt, math.MaxInt}
	wrongShifts = []int{-1, 63, 64, 65, 128, math.MinInt, math.MaxInt}
)

// turns are numbers of turns near 0, and at both ends of 64 bits.
var turns = []int{
	-9, -8, -7, -6, -5, -4, -3, -2, -1, 0, 1, 2, 3, 4, 5, 6, 7, 8, 9, 1000003, -1000003,
	math.MinInt, math.MinInt + 1, math.MinInt + 2, math.MinInt + 3,
	math.MaxInt, math.MaxInt - 1, math.MaxInt - 2, math.MaxInt - 3,
}

// answer is what a call tells.
type answer struct {
	z api.Cx
	e api.Errno
}

func told(z api.Cx, e api.Errno) answer { return answer{z, e} }

// refusal is what a call tells beside an error.
func refusal(e api.Errno) answer { return answer{e: e} }

// exact is a complex number of any size.
type exact struct{ re, im *big.Int }

func exactly(a api.Cx) exact {
	return exact{big.NewInt(int64(a.Re)), big.NewInt(int64(a.Im))}
}

func (x exact) plus(y exact) exact {
	return exact{new(big.Int).Add(x.re, y.re), new(big.Int).Add(x.im, y.im)}
}

func (x exact) minus(y exact) exact {
	return exact{new(big.Int).Sub(x.re, y.re), new(big.Int).Sub(x.im, y.im)}
}

func (x exact) times(y exact) exact {
	re := new(big.Int).Mul(x.re, y.re)
	re.Sub(re, new(big.Int).Mul(x.im, y.im))
	im := new(big.Int).Mul(x.re, y.im)
	im.Add(im, new(big.Int).Mul(x.im, y.re))
	return exact{re, im}
}

func (x exact) conjugate() exact { return exact{x.re, new(big.Int).Neg(x.im)} }

func (x exact) norm() *big.Int {
	n := new(big.Int).Mul(x.re, x.re)
	return n.Add(n, new(big.Int).Mul(x.im, x.im))
}

func (x exact) is(a api.Cx) bool {
	y := exactly(a)
	return x.re.Cmp(y.re) == 0 && x.im.Cmp(y.im) == 0
}

// numbers are all whose parts are among these.
func numbers(parts ...int) []api.Cx {
	var all []api.Cx
	for _, re := range parts {
		for _, im := range parts {
			all = append(all, api.Cx{Re: re, Im: im})
		}
	}
	return all
}

// upTo are parts near 0, in between, and at both edges of a limit.
func upTo(limit int) []int {
	third := limit / 3
	return []int{0, 1, -1, 3, -5, third, -third - 1, limit / 2, -limit / 2, limit - 1, 1 - limit, limit, -limit}
}

// beyond are parts next to both edges of a limit, and so far from them that what is made of them could wrap round.
func beyond(limit int) []int {
	return []int{
		limit + 1, -limit - 1, limit + 2, -limit - 2, 2 * limit, -2 * limit, 1 << 62, -1 << 62,
		math.MaxInt, math.MaxInt - 1, math.MinInt, math.MinInt + 1,
	}
}

// outside are numbers with one part, or both, beyond a limit.
func outside(limit int) []api.Cx {
	all := numbers(beyond(limit)...)
	for _, far := range beyond(limit) {
		for _, near := range upTo(limit) {
			all = append(all, api.Cx{Re: far, Im: near}, api.Cx{Re: near, Im: far})
		}
	}
	return all
}

func mayBe(a api.Cx, limit int) bool {
	return a.Re >= -limit && a.Re <= limit && a.Im >= -limit && a.Im <= limit
}

// P3.1, P3.2: sums, differences and products by hand.
func TestPairsByHand(t *testing.T) {
	for _, c := range []struct{ a, b, sum, less, times api.Cx }{
		{api.Cx{}, api.Cx{}, api.Cx{}, api.Cx{}, api.Cx{}},
		{api.Cx{Re: 1, Im: 2}, api.Cx{Re: 3, Im: 4}, api.Cx{Re: 4, Im: 6}, api.Cx{Re: -2, Im: -2}, api.Cx{Re: -5, Im: 10}},
		{api.Cx{Re: 3, Im: 4}, api.Cx{Re: 3, Im: -4}, api.Cx{Re: 6}, api.Cx{Im: 8}, api.Cx{Re: 25}},
		{api.Cx{Re: 5}, api.Cx{Im: 7}, api.Cx{Re: 5, Im: 7}, api.Cx{Re: 5, Im: -7}, api.Cx{Im: 35}},
		{api.Cx{Im: 5}, api.Cx{Im: 7}, api.Cx{Im: 12}, api.Cx{Im: -2}, api.Cx{Re: -35}},
		{api.Cx{Re: -2, Im: 3}, api.Cx{Re: 5, Im: -7}, api.Cx{Re: 3, Im: -4}, api.Cx{Re: -7, Im: 10}, api.Cx{Re: 11, Im: 29}},
		{api.Cx{Re: narrow, Im: narrow}, api.Cx{Re: factor, Im: factor},
			api.Cx{Re: 3 << 30, Im: 3 << 30}, api.Cx{Re: 1 << 30, Im: 1 << 30}, api.Cx{Im: 1 << 62}},
		{api.Cx{Re: -factor, Im: factor}, api.Cx{Re: narrow, Im: narrow},
			api.Cx{Re: 1 << 30, Im: 3 << 30}, api.Cx{Re: -3 << 30, Im: -1 << 30}, api.Cx{Re: -1 << 62}},
	} {
		if a := told(cx.Sum(c.a, c.b)); a != (answer{z: c.sum}) {
			t.Errorf("Sum of %v, %v is %v, not %v", c.a, c.b, a, c.sum)
		}
		if a := told(cx.Less(c.a, c.b)); a != (answer{z: c.less}) {
			t.Errorf("Less of %v, %v is %v, not %v", c.a, c.b, a, c.less)
		}
		if a := told(cx.Times(c.a, c.b)); a != (answer{z: c.times}) {
			t.Errorf("Times of %v, %v is %v, not %v", c.a, c.b, a, c.times)
		}
	}
}

// P3.1, R5: at both edges of the wide ones nothing wraps round.
func TestWideEdgesByHand(t *testing.T) {
	greatest, least := api.Cx{Re: wide, Im: wide}, api.Cx{Re: -wide, Im: -wide}
	for _, c := range []struct{ got, want answer }{
		{told(cx.Sum(greatest, greatest)), answer{z: api.Cx{Re: 1 << 62, Im: 1 << 62}}},
		{told(cx.Sum(least, least)), answer{z: api.Cx{Re: -1 << 62, Im: -1 << 62}}},
		{told(cx.Sum(greatest, least)), answer{}},
		{told(cx.Less(greatest, least)), answer{z: api.Cx{Re: 1 << 62, Im: 1 << 62}}},
		{told(cx.Less(least, greatest)), answer{z: api.Cx{Re: -1 << 62, Im: -1 << 62}}},
		{told(cx.Conj(least)), answer{z: api.Cx{Re: -wide, Im: wide}}},
		{told(cx.Turn(least, 1)), answer{z: api.Cx{Re: wide, Im: -wide}}},
		{told(cx.Turn(greatest, 2)), answer{z: least}},
	} {
		if c.got != c.want {
			t.Errorf("%v, not %v", c.got, c.want)
		}
	}
}

// P3.1, R5: all pairs of many wide numbers, held against numbers that can't run over.
func TestSumsAreExact(t *testing.T) {
	all := numbers(upTo(wide)...)
	for _, a := range all {
		for _, b := range all {
			x, y := exactly(a), exactly(b)
			if got := told(cx.Sum(a, b)); got.e != api.OK || !x.plus(y).is(got.z) {
				t.Fatalf("Sum of %v, %v is %v", a, b, got)
			}
			if got := told(cx.Less(a, b)); got.e != api.OK || !x.minus(y).is(got.z) {
				t.Fatalf("Less of %v, %v is %v", a, b, got)
			}
		}
	}
}

// P3.1: Im's sign is changed, and nothing else.
func TestConj(t *testing.T) {
	if got := told(cx.Conj(api.Cx{Re: 3, Im: 4})); got != (answer{z: api.Cx{Re: 3, Im: -4}}) {
		t.Errorf("Conj of 3+4i is %v", got)
	}
	for _, a := range numbers(upTo(wide)...) {
		if got := told(cx.Conj(a)); got.e != api.OK || !exactly(a).conjugate().is(got.z) {
			t.Errorf("Conj of %v is %v", a, got)
		}
	}
}

// P3.1: the document's example, and turns both ways by hand.
func TestTurnByHand(t *testing.T) {
	a := api.Cx{Re: 3, Im: 4}
	for _, c := range []struct {
		n    int
		want api.Cx
	}{
		{0, a}, {1, api.Cx{Re: -4, Im: 3}}, {2, api.Cx{Re: -3, Im: -4}}, {3, api.Cx{Re: 4, Im: -3}}, {4, a},
		{5, api.Cx{Re: -4, Im: 3}}, {-1, api.Cx{Re: 4, Im: -3}}, {-2, api.Cx{Re: -3, Im: -4}}, {-3, api.Cx{Re: -4, Im: 3}},
		{-4, a}, {-5, api.Cx{Re: 4, Im: -3}},
		{math.MaxInt, api.Cx{Re: 4, Im: -3}}, {math.MinInt, a}, {math.MinInt + 1, api.Cx{Re: -4, Im: 3}},
	} {
		if got := told(cx.Turn(a, c.n)); got != (answer{z: c.want}) {
			t.Errorf("Turn of %v, %d times, is %v, not %v", a, c.n, got, c.want)
		}
	}
}

// P3.1: many wide numbers, times i one by one; n below 0 goes as often times -i.
func TestTurnIsExact(t *testing.T) {
	i, back := exactly(api.Cx{Im: 1}), exactly(api.Cx{Im: -1})
	for _, a := range numbers(upTo(wide)...) {
		for _, n := range turns {
			want, left, step := exactly(a), n%4, i
			if left < 0 {
				left, step = -left, back
			}
			for range left {
				want = want.times(step)
			}
			if got := told(cx.Turn(a, n)); got.e != api.OK || !want.is(got.z) {
				t.Fatalf("Turn of %v, %d times, is %v", a, n, got)
			}
		}
	}
}

// P3.1, R2, P1: a number that is not wide is told, in either place, and beside that is nothing.
func TestNotWide(t *testing.T) {
	for _, a := range outside(wide) {
		if got := told(cx.Conj(a)); got != refusal(api.ErrRange) {
			t.Errorf("Conj of %v is %v", a, got)
		}
		for _, n := range turns {
			if got := told(cx.Turn(a, n)); got != refusal(api.ErrRange) {
				t.Errorf("Turn of %v, %d times, is %v", a, n, got)
			}
		}
		for _, b := range append(numbers(0, 1, wide, -wide), a, api.Cx{Re: -a.Re, Im: -a.Im}) {
			for _, got := range []answer{
				told(cx.Sum(a, b)), told(cx.Sum(b, a)), told(cx.Less(a, b)), told(cx.Less(b, a)),
			} {
				if got != refusal(api.ErrRange) {
					t.Fatalf("a sum or difference of %v, %v is %v", a, b, got)
				}
			}
		}
	}
}

// P3.2, R5: pairs of many numbers that may be multiplied, in either order, held against numbers that can't run over.
func TestTimesIsExact(t *testing.T) {
	for _, a := range numbers(upTo(narrow)...) {
		for _, b := range numbers(upTo(factor)...) {
			want := exactly(a).times(exactly(b))
			for _, got := range []answer{told(cx.Times(a, b)), told(cx.Times(b, a))} {
				if got.e != api.OK || !want.is(got.z) {
					t.Fatalf("Times of %v, %v is %v", a, b, got)
				}
			}
		}
	}
}

// P3.2, R2, P1: on each side of each edge, in all four places: one number narrow, and the other half so, or ErrRange and nothing.
func TestTimesEdges(t *testing.T) {
	all := numbers(0, factor, factor+1, -factor, -factor-1, narrow, narrow+1, -narrow, -narrow-1, 1<<32, math.MaxInt, math.MinInt)
	for _, a := range all {
		for _, b := range all {
			may := mayBe(a, narrow) && mayBe(b, factor) || mayBe(a, factor) && mayBe(b, narrow)
			got := told(cx.Times(a, b))
			if may && (got.e != api.OK || !exactly(a).times(exactly(b)).is(got.z)) {
				t.Fatalf("Times of %v, %v is %v", a, b, got)
			}
			if !may && got != refusal(api.ErrRange) {
				t.Fatalf("Times of %v, %v, which may not be, is %v", a, b, got)
			}
		}
	}
}

// P3.2: what Times refuses, by hand: two that are narrow, but no more; and one that is not, beside any.
func TestTimesErrRange(t *testing.T) {
	for _, c := range []struct{ a, b api.Cx }{
		{api.Cx{Re: narrow}, api.Cx{Re: factor + 1}},
		{api.Cx{Im: -factor - 1}, api.Cx{Re: factor + 1}},
		{api.Cx{Re: narrow, Im: narrow}, api.Cx{Re: narrow, Im: narrow}},
		{api.Cx{Re: narrow + 1}, api.Cx{}},
		{api.Cx{}, api.Cx{Im: narrow + 1}},
		{api.Cx{Im: -narrow - 1}, api.Cx{Re: 1}},
		{api.Cx{Re: 1, Im: math.MinInt}, api.Cx{Re: 1}},
		{api.Cx{Re: 1 << 32}, api.Cx{Re: 1 << 32}},
	} {
		for _, got := range []answer{told(cx.Times(c.a, c.b)), told(cx.Times(c.b, c.a))} {
			if got != refusal(api.ErrRange) {
				t.Errorf("Times of %v, %v is %v", c.a, c.b, got)
			}
		}
	}
}

// P3.2: norms by hand; the greatest is 2^63, without a sign.
func TestNormByHand(t *testing.T) {
	for _, c := range []struct {
		a    api.Cx
		want uint64
	}{
		{api.Cx{}, 0}, {api.Cx{Re: 1}, 1}, {api.Cx{Im: -1}, 1}, {api.Cx{Re: 3, Im: 4}, 25}, {api.Cx{Re: -5, Im: 12}, 169},
		{api.Cx{Re: narrow}, 1 << 62}, {api.Cx{Im: -narrow}, 1 << 62},
		{api.Cx{Re: narrow, Im: narrow}, 1 << 63}, {api.Cx{Re: -narrow, Im: -narrow}, 1 << 63},
		{api.Cx{Re: narrow, Im: 1 - narrow}, 1<<63 - 1<<32 + 1},
	} {
		if n, e := cx.Norm(c.a); n != c.want || e != api.OK {
			t.Errorf("Norm of %v is %d, error %d, not %d", c.a, n, e, c.want)
		}
	}
}

// P3.2, R5: norms of many narrow numbers, held against numbers that can't run over.
func TestNormIsExact(t *testing.T) {
	for _, a := range numbers(upTo(narrow)...) {
		want := exactly(a).norm()
		if n, e := cx.Norm(a); e != api.OK || want.Cmp(new(big.Int).SetUint64(n)) != 0 {
			t.Errorf("Norm of %v is %d, error %d, not %v", a, n, e, want)
		}
	}
}

// P3.2, R2, P1: a number that is not narrow has no norm here, and beside the error is 0.
func TestNormErrRange(t *testing.T) {
	for _, a := range outside(narrow) {
		if n, e := cx.Norm(a); n != 0 || e != api.ErrRange {
			t.Errorf("Norm of %v is %d, error %d", a, n, e)
		}
	}
}

// P3.3: by hand, in each mode, the two parts each as they are.
func TestShiftByHand(t *testing.T) {
	for _, c := range []struct {
		a               api.Cx
		s               int
		floor, up, even api.Cx
	}{
		{api.Cx{Re: 7, Im: -7}, 0, api.Cx{Re: 7, Im: -7}, api.Cx{Re: 7, Im: -7}, api.Cx{Re: 7, Im: -7}},
		{api.Cx{Re: -3, Im: 5}, 1, api.Cx{Re: -2, Im: 2}, api.Cx{Re: -1, Im: 3}, api.Cx{Re: -2, Im: 2}},
		{api.Cx{Re: 3, Im: -5}, 1, api.Cx{Re: 1, Im: -3}, api.Cx{Re: 2, Im: -2}, api.Cx{Re: 2, Im: -2}},
		{api.Cx{Re: 6, Im: 7}, 2, api.Cx{Re: 1, Im: 1}, api.Cx{Re: 2, Im: 2}, api.Cx{Re: 2, Im: 2}},
		{api.Cx{Re: math.MaxInt, Im: math.MinInt}, 62, api.Cx{Re: 1, Im: -2}, api.Cx{Re: 2, Im: -2}, api.Cx{Re: 2, Im: -2}},
		{api.Cx{Re: math.MinInt, Im: math.MaxInt}, 0, api.Cx{Re: math.MinInt, Im: math.MaxInt},
			api.Cx{Re: math.MinInt, Im: math.MaxInt}, api.Cx{Re: math.MinInt, Im: math.MaxInt}},
	} {
		for mode, want := range []api.Cx{c.floor, c.up, c.even} {
			if got := told(cx.Shift(c.a, c.s, mode)); got != (answer{z: want}) {
				t.Errorf("Shift(%v, %d, %d) is %v, not %v", c.a, c.s, mode, got, want)
			}
		}
	}
}

// P3.3: each part comes as round.Shift tells it, of all shifts and modes, and numbers of any size; errors, too.
func TestShiftAsRound(t *testing.T) {
	shifts := append([]int{}, wrongShifts...)
	for s := range 63 {
		shifts = append(shifts, s)
	}
	for _, a := range numbers(0, 1, -1, 6, -7, 1<<31+5, -1<<40, 3<<60+1, math.MaxInt, math.MinInt) {
		for _, s := range shifts {
			for _, mode := range append(modes, wrongModes...) {
				re, e := round.Shift(a.Re, s, mode)
				im, _ := round.Shift(a.Im, s, mode)
				if got := told(cx.Shift(a, s, mode)); got != (answer{api.Cx{Re: re, Im: im}, e}) {
					t.Fatalf("Shift(%v, %d, %d) is %v", a, s, mode, got)
				}
			}
		}
	}
}

// P3.3, R2, P1: a shift or a mode that may not be is told, of any number, and beside that is nothing.
func TestShiftErrArg(t *testing.T) {
	refused := func(a api.Cx, s, mode int) {
		if got := told(cx.Shift(a, s, mode)); got != refusal(api.ErrArg) {
			t.Errorf("Shift(%v, %d, %d) is %v", a, s, mode, got)
		}
	}
	for _, a := range numbers(0, 5, wide+1, math.MaxInt, math.MinInt) {
		for _, s := range wrongShifts {
			for _, mode := range append(modes, wrongModes...) {
				refused(a, s, mode)
			}
		}
		for s := range 63 {
			for _, mode := range wrongModes {
				refused(a, s, mode)
			}
		}
	}
}

// must is the number of an answer that is no error.
func must(t *testing.T, a answer) api.Cx {
	t.Helper()
	if a.e != api.OK {
		t.Fatalf("error %d", a.e)
	}
	return a.z
}

func normOf(t *testing.T, a api.Cx) uint64 {
	t.Helper()
	n, e := cx.Norm(a)
	if e != api.OK {
		t.Fatalf("Norm of %v: error %d", a, e)
	}
	return n
}

// P3.4: a product's norm is the product of the norms, of numbers so small that it has one.
func TestNormOfProduct(t *testing.T) {
	small := numbers(upTo(1 << 15)...)
	for _, a := range small {
		for _, b := range small {
			product := must(t, told(cx.Times(a, b)))
			if n, want := normOf(t, product), normOf(t, a)*normOf(t, b); n != want {
				t.Fatalf("Norm of %v times %v is %d, not %d", a, b, n, want)
			}
		}
	}
}

// P3.4: turning four times changes nothing; n turns, and as many back, neither.
func TestTurnedRound(t *testing.T) {
	for _, a := range numbers(upTo(wide)...) {
		z := a
		for range 4 {
			z = must(t, told(cx.Turn(z, 1)))
		}
		if z != a {
			t.Errorf("%v turned once, four times, is %v", a, z)
		}
		for _, n := range []int{4, -4, 0, math.MinInt} {
			if z := must(t, told(cx.Turn(a, n))); z != a {
				t.Errorf("%v turned %d times is %v", a, n, z)
			}
		}
		for n := range 9 {
			if z := must(t, told(cx.Turn(must(t, told(cx.Turn(a, n))), -n))); z != a {
				t.Errorf("%v turned %d times and back is %v", a, n, z)
			}
		}
	}
}

// P3.4: a turn is a product with i.
func TestTurnIsAProduct(t *testing.T) {
	for _, a := range numbers(upTo(narrow)...) {
		if turned, product := told(cx.Turn(a, 1)), told(cx.Times(a, api.Cx{Im: 1})); turned != product {
			t.Errorf("%v turned is %v, and times i %v", a, turned, product)
		}
	}
}

// P3.4: a number times its conjugate is its norm.
func TestTimesConjugate(t *testing.T) {
	for _, a := range numbers(upTo(factor)...) {
		product := must(t, told(cx.Times(a, must(t, told(cx.Conj(a))))))
		if product.Im != 0 || product.Re < 0 || uint64(product.Re) != normOf(t, a) {
			t.Errorf("%v times its conjugate is %v, and its norm %d", a, product, normOf(t, a))
		}
	}
}

// P3.4: products are spread over sums, and over differences.
func TestProductsAreSpread(t *testing.T) {
	terms := numbers(0, 1, -7, 12345, -1<<29, 1<<29)
	for _, a := range numbers(0, 1, -3, 1<<20+1, narrow, -narrow) {
		for _, b := range terms {
			for _, c := range terms {
				ab, ac := must(t, told(cx.Times(a, b))), must(t, told(cx.Times(a, c)))
				sum := must(t, told(cx.Times(a, must(t, told(cx.Sum(b, c))))))
				less := must(t, told(cx.Times(a, must(t, told(cx.Less(b, c))))))
				if sum != must(t, told(cx.Sum(ab, ac))) || less != must(t, told(cx.Less(ab, ac))) {
					t.Fatalf("%v times the sum, or difference, of %v and %v is %v, %v", a, b, c, sum, less)
				}
			}
		}
	}
}

// R1: a call tells the same, whatever was called ahead of it.
func TestNothingIsKept(t *testing.T) {
	type question struct {
		a, b api.Cx
		n    int
	}
	type answers struct {
		numbers [6]answer
		norm    uint64
		e       api.Errno
	}
	ask := func(q question) answers {
		var all answers
		all.numbers = [6]answer{
			told(cx.Sum(q.a, q.b)), told(cx.Less(q.a, q.b)), told(cx.Times(q.a, q.b)),
			told(cx.Conj(q.a)), told(cx.Turn(q.a, q.n)), told(cx.Shift(q.a, q.n, api.MEven)),
		}
		all.norm, all.e = cx.Norm(q.a)
		return all
	}
	var asked []question
	var first []answers
	some := numbers(0, -5, factor, narrow+1, wide, math.MinInt)
	for _, a := range some {
		for _, b := range some {
			for n := -1; n <= 2; n++ {
				asked = append(asked, question{a, b, n})
				first = append(first, ask(question{a, b, n}))
			}
		}
	}
	for i := len(asked) - 1; i >= 0; i-- {
		if again := ask(asked[i]); again != first[i] {
			t.Errorf("%v: first %v, then %v", asked[i], first[i], again)
		}
	}
}
