package fft_test

import (
	"math"
	"math/cmplx"
	"slices"
	"testing"

	"headroom/api"
	"headroom/budget"
	"headroom/fft"
	"headroom/plan"
	"headroom/split"
)

// extremes are numbers that are far from all that may be, or the same as some of these in their last 8, 16 or 32 bits.
var extremes = []int{
	math.MinInt, math.MinInt + 1, math.MinInt + 2, -1 << 62, -1<<32 - 1, -1 << 32, -1<<32 + 1,
	1<<32 - 1, 1 << 32, 1<<32 + 1, 1<<32 + 2, 1<<32 + 3, 1 << 62, math.MaxInt - 1, math.MaxInt,
}

// wrongPlans are plans that may not be, each by one field, and such as lie far from all that may.
func wrongPlans() []api.Plan {
	all := []api.Plan{
		{}, {Log: 1}, {Log: 7}, {Log: -1}, {Log: 2, Format: -1}, {Log: 2, Format: 2}, {Log: 2, Kernel: -1}, {Log: 2, Kernel: 3},
		{Log: 2, Scale: -1}, {Log: 2, Scale: 3}, {Log: 2, Mode: -1}, {Log: 2, Mode: 3}, {Log: 6, Mode: 3, Inverse: true},
		{Log: 5, Kernel: api.KSplit, Scale: api.SBlock}, {Log: 2, Kernel: api.KSplit, Scale: api.SNone, Inverse: true},
	}
	for _, x := range append([]int{64, 128, 256, 258, 1<<16 + 2}, extremes...) {
		all = append(all,
			api.Plan{Log: x}, api.Plan{Log: 2, Format: x}, api.Plan{Log: 2, Kernel: x}, api.Plan{Log: 2, Scale: x}, api.Plan{Log: 2, Mode: x},
			api.Plan{Log: x, Kernel: api.KSplit}, api.Plan{Format: x, Log: x, Kernel: x, Scale: x, Mode: x, Inverse: true})
	}
	return all
}

// spread are n numbers of which no part is greater than most, either way: many kinds of them, the same in each run.
func spread(n, seed, most int) []api.Cx {
	state := uint64(seed)*2654435761 + 12345
	part := func() int {
		state = state*6364136223846793005 + 1442695040888963407
		return int(state>>20)%(2*most+1) - most
	}
	x := make([]api.Cx, n)
	for k := range x {
		x[k].Re = part()
		x[k].Im = part()
	}
	return x
}

// corner is a number whose parts are as great as may be, or as little, by a code.
func corner(code, least, greatest int) api.Cx {
	return [4]api.Cx{{Re: greatest, Im: greatest}, {Re: greatest, Im: least}, {Re: least, Im: greatest}, {Re: least, Im: least}}[code&3]
}

// edges are n numbers, corners of which some have a part of 0.
func edges(n, seed, least, greatest int) []api.Cx {
	x := make([]api.Cx, n)
	for k := range x {
		x[k] = corner(k+seed+k*seed/3, least, greatest)
		switch (k*7 + seed) % 5 {
		case 1:
			x[k].Re = 0
		case 2:
			x[k].Im = 0
		}
	}
	return x
}

// alone are n numbers of which only one is not 0.
func alone(n, place int, a api.Cx) []api.Cx {
	x := make([]api.Cx, n)
	x[place%n] = a
	return x
}

// root is e to i times the angle of k of n, the way of the transform.
func root(k, n int, inverse bool) complex128 {
	angle := -2 * math.Pi * float64(k%n) / float64(n)
	if inverse {
		angle = -angle
	}
	return cmplx.Exp(complex(0, angle))
}

// towards are n mantissas as far from 0 as may be, whose signs put all that is summed in a bin's Re, or its Im, on one side.
func towards(p api.Plan, bin int, ofIm bool) []api.Cx {
	n, one := 1<<p.Log, 1<<bitsOf(p.Format)
	signed := func(of float64) int {
		if of < 0 {
			return -one
		}
		return one - 1
	}
	x := make([]api.Cx, n)
	for j := range x {
		w := root(bin*j, n, p.Inverse)
		x[j] = api.Cx{Re: signed(real(w)), Im: signed(-imag(w))}
		if ofIm {
			x[j] = api.Cx{Re: signed(imag(w)), Im: signed(real(w))}
		}
	}
	return x
}

// samples are numbers of each kind that a plan may be handed: spread and at the edges, great and small, and next to where rooms and shifts change.
func samples(p api.Plan) [][]api.Cx {
	n, one := 1<<p.Log, 1<<bitsOf(p.Format)
	all := [][]api.Cx{make([]api.Cx, n), alone(n, 3, api.Cx{Re: -1}), alone(n, n-1, api.Cx{Im: -one})}
	for seed := range 2 {
		all = append(all, spread(n, seed, one-1), spread(n, seed, 9), edges(n, seed, -one, one-1))
	}
	for _, m := range []int{one / 2, one / 4, one / 8} {
		all = append(all, edges(n, m+n, -m, m), edges(n, n, -m-1, m), edges(n, n, 1-m, m-1))
	}
	for code := range 4 {
		all = append(all, slices.Repeat([]api.Cx{corner(code, -one, one-1)}, n))
	}
	return append(all, towards(p, 1, false), towards(p, n-1, true))
}

func run(t *testing.T, x []api.Cx, p api.Plan) api.Block {
	t.Helper()
	b, e := fft.Run(x, p)
	if e != api.OK {
		t.Fatalf("Run of %v, plan %v: error %d", x, p, e)
	}
	return b
}

func ready(t *testing.T, x []api.Cx, p api.Plan) api.Block {
	t.Helper()
	b, e := fft.Ready(x, p)
	if e != api.OK {
		t.Fatalf("Ready of %v, plan %v: error %d", x, p, e)
	}
	return b
}

func next(t *testing.T, b api.Block, p api.Plan, pass int) api.Block {
	t.Helper()
	behind, e := fft.Next(b, p, pass)
	if e != api.OK {
		t.Fatalf("Next of %v, plan %v, pass %d: error %d", b, p, pass, e)
	}
	return behind
}

// refused holds the error of numbers that may not be, or of their plan, against what it is to be.
func refused(t *testing.T, x []api.Cx, p api.Plan, want api.Errno) {
	t.Helper()
	if b, e := fft.Run(x, p); !empty(b) || e != want {
		t.Errorf("Run of %d numbers, plan %v, is %v, error %d, not %d", len(x), p, b, e, want)
	}
	if b, e := fft.Ready(x, p); !empty(b) || e != want {
		t.Errorf("Ready of %d numbers, plan %v, is %v, error %d, not %d", len(x), p, b, e, want)
	}
}

func nextRefused(t *testing.T, b api.Block, p api.Plan, pass int, want api.Errno) {
	t.Helper()
	if behind, e := fft.Next(b, p, pass); !empty(behind) || e != want {
		t.Errorf("Next of %d numbers, exponent %d, plan %v, pass %d, is %v, error %d, not %d", len(b.X), b.Exp, p, pass, behind, e, want)
	}
}

// counted are 1, 2, 3, 4, and least the least mantissa of Q15 four times.
var (
	counted = []api.Cx{{Re: 1}, {Re: 2}, {Re: 3}, {Re: 4}}
	least   = []api.Cx{{Re: -32768}, {Re: -32768}, {Re: -32768}, {Re: -32768}}
)

// P15.1: transforms by hand; the first is the document's example.
func TestRunByHand(t *testing.T) {
	for _, c := range []struct {
		x    []api.Cx
		p    api.Plan
		want api.Block
	}{
		{counted, api.Plan{Log: 2, Scale: api.SNone}, api.Block{X: []api.Cx{{Re: 10}, {Re: -2, Im: 2}, {Re: -2}, {Re: -2, Im: -2}}, Shifts: []int{0, 0}}},
		{counted, api.Plan{Log: 2, Scale: api.SNone, Inverse: true}, api.Block{X: []api.Cx{{Re: 10}, {Re: -2, Im: -2}, {Re: -2}, {Re: -2, Im: 2}}, Shifts: []int{0, 0}}},
		{counted, api.Plan{Log: 2, Scale: api.SNone, Kernel: api.KFour, Format: api.F31}, api.Block{X: []api.Cx{{Re: 10}, {Re: -2, Im: 2}, {Re: -2}, {Re: -2, Im: -2}}, Shifts: []int{0}}},
		// 4 is put up to 2^14, 12 bits; behind the first pass 12288 is more than 2^13, so the second one shifts, too.
		{counted, api.Plan{Log: 2, Scale: api.SBlock}, api.Block{X: []api.Cx{{Re: 10240}, {Re: -2048, Im: 2048}, {Re: -2048}, {Re: -2048, Im: -2048}}, Exp: -10, Shifts: []int{1, 1}}},
		{counted, api.Plan{Log: 2, Scale: api.SBlock, Kernel: api.KFour}, api.Block{X: []api.Cx{{Re: 10240}, {Re: -2048, Im: 2048}, {Re: -2048}, {Re: -2048, Im: -2048}}, Exp: -10, Shifts: []int{2}}},
		{counted, api.Plan{Log: 2, Scale: api.SBlock, Format: api.F31}, api.Block{X: []api.Cx{{Re: 10 << 26}, {Re: -2 << 26, Im: 2 << 26}, {Re: -2 << 26}, {Re: -2 << 26, Im: -2 << 26}}, Exp: -26, Shifts: []int{1, 1}}},
		{least, api.Plan{Log: 2}, api.Block{X: []api.Cx{{Re: -16384}, {}, {}, {}}, Exp: 3, Shifts: []int{1, 1}}},
		{least, api.Plan{Log: 2, Kernel: api.KFour}, api.Block{X: []api.Cx{{Re: -16384}, {}, {}, {}}, Exp: 3, Shifts: []int{2}}},
		{least, api.Plan{Log: 2, Kernel: api.KSplit}, api.Block{X: []api.Cx{{Re: -16384}, {}, {}, {}}, Exp: 3}},
		{least, api.Plan{Log: 2, Scale: api.SNone}, api.Block{X: []api.Cx{{Re: -32768}, {}, {}, {}}, Sat: true, Shifts: []int{0, 0}}},
		{least, api.Plan{Log: 2, Scale: api.SBlock}, api.Block{X: []api.Cx{{Re: -16384}, {}, {}, {}}, Exp: 3, Shifts: []int{2, 1}}},
		// Halved first: 0, 1, 1, 2, down; 1, 1, 2, 2, up; 0, 1, 2, 2, to even ones. Then each pass rounds, too.
		{counted, api.Plan{Log: 2}, api.Block{X: []api.Cx{{}, {Re: -1}, {Re: -1}, {Re: -1, Im: -1}}, Exp: 3, Shifts: []int{1, 1}}},
		{counted, api.Plan{Log: 2, Mode: api.MUp}, api.Block{X: []api.Cx{{Re: 2}, {Re: 0}, {}, {Re: 0}}, Exp: 3, Shifts: []int{1, 1}}},
		{counted, api.Plan{Log: 2, Mode: api.MUp, Kernel: api.KFour}, api.Block{X: []api.Cx{{Re: 2}, {}, {}, {}}, Exp: 3, Shifts: []int{2}}},
		{[]api.Cx{{Re: 8}, {Re: 16}, {Re: 24}, {Re: 32}}, api.Plan{Log: 2, Kernel: api.KSplit}, api.Block{X: []api.Cx{{Re: 10}, {Re: -2, Im: 2}, {Re: -2}, {Re: -2, Im: -2}}, Exp: 3}},
	} {
		if b := run(t, c.x, c.p); !same(b, c.want) {
			t.Errorf("Run of %v, plan %v, is %v, not %v", c.x, c.p, b, c.want)
		}
	}
}

// P15.1: blocks that are ready, by hand.
func TestReadyByHand(t *testing.T) {
	x := []api.Cx{{Re: 1, Im: -1}, {Re: 2}, {Re: -3, Im: 5}, {Re: 4}, {Re: 5}, {Re: 6}, {Re: 7}, {Re: 8, Im: 7}}
	flipped := []api.Cx{x[0], x[4], x[2], x[6], x[1], x[5], x[3], x[7]}
	up := make([]api.Cx, 8)
	for k, a := range flipped {
		up[k] = api.Cx{Re: a.Re * 2048, Im: a.Im * 2048}
	}
	for _, c := range []struct {
		p    api.Plan
		want api.Block
	}{
		{api.Plan{Log: 3, Scale: api.SNone}, api.Block{X: flipped}},
		{api.Plan{Log: 3, Scale: api.SNone, Kernel: api.KFour, Mode: api.MEven, Inverse: true}, api.Block{X: flipped}},
		{api.Plan{Log: 3, Scale: api.SBlock}, api.Block{X: up, Exp: -11}},
		{api.Plan{Log: 3, Scale: api.SBlock, Kernel: api.KFour, Mode: api.MUp}, api.Block{X: up, Exp: -11}},
		{api.Plan{Log: 3}, api.Block{X: []api.Cx{{Im: -1}, {Re: 2}, {Re: -2, Im: 2}, {Re: 3}, {Re: 1}, {Re: 3}, {Re: 2}, {Re: 4, Im: 3}}, Exp: 1}},
		{api.Plan{Log: 3, Kernel: api.KFour, Mode: api.MUp}, api.Block{X: []api.Cx{{Re: 1}, {Re: 3}, {Re: -1, Im: 3}, {Re: 4}, {Re: 1}, {Re: 3}, {Re: 2}, {Re: 4, Im: 4}}, Exp: 1}},
		{api.Plan{Log: 3, Mode: api.MEven}, api.Block{X: []api.Cx{{}, {Re: 2}, {Re: -2, Im: 2}, {Re: 4}, {Re: 1}, {Re: 3}, {Re: 2}, {Re: 4, Im: 4}}, Exp: 1}},
		{api.Plan{Log: 3, Kernel: api.KSplit}, api.Block{X: []api.Cx{{Im: -1}, {Re: 1}, {Re: -2, Im: 2}, {Re: 2}, {Re: 2}, {Re: 3}, {Re: 3}, {Re: 4, Im: 3}}, Exp: 1}},
		{api.Plan{Log: 3, Kernel: api.KSplit, Mode: api.MUp}, api.Block{X: []api.Cx{{Re: 1}, {Re: 1}, {Re: -1, Im: 3}, {Re: 2}, {Re: 3}, {Re: 3}, {Re: 4}, {Re: 4, Im: 4}}, Exp: 1}},
	} {
		if b := ready(t, x, c.p); !same(b, c.want) {
			t.Errorf("Ready of %v, plan %v, is %v, not %v", x, c.p, b, c.want)
		}
	}
}

// P15.1: how far numbers are put up, by hand: so that the greatest part is more than a quarter, and not more than a half.
func TestReadyPutsUpByHand(t *testing.T) {
	for _, c := range []struct{ part, format, want int }{
		{0, api.F15, 0}, {1, api.F15, 14}, {-1, api.F15, 14}, {3, api.F15, 12}, {1000, api.F15, 4}, {-1024, api.F15, 4}, {1025, api.F15, 3},
		{8192, api.F15, 1}, {8193, api.F15, 0}, {16384, api.F15, 0}, {-16384, api.F15, 0}, {16385, api.F15, 0}, {32767, api.F15, 0}, {-32768, api.F15, 0},
		{0, api.F31, 0}, {1, api.F31, 30}, {-32768, api.F31, 15}, {1 << 29, api.F31, 1}, {1<<29 + 1, api.F31, 0}, {1<<31 - 1, api.F31, 0}, {-1 << 31, api.F31, 0},
	} {
		for _, a := range []api.Cx{{Re: c.part}, {Im: c.part}, {Re: c.part, Im: c.part / 2}} {
			b := ready(t, alone(4, 1, a), api.Plan{Format: c.format, Log: 2, Scale: api.SBlock})
			if want := (api.Cx{Re: a.Re << c.want, Im: a.Im << c.want}); b.Exp != -c.want || b.X[2] != want {
				t.Errorf("%v is ready as %v, exponent %d, not put up by %d", a, b.X[2], b.Exp, c.want)
			}
		}
	}
}

// P15.1: blocks that are ready, and transforms, of all plans, against the words.
func TestRunByWords(t *testing.T) {
	t.Parallel()
	for _, p := range plan.Every() {
		for _, x := range samples(p) {
			blocks := runByWords(x, p)
			if b := ready(t, x, p); !same(b, blocks[0]) {
				t.Fatalf("Ready of %v, plan %v, is %v, not %v", x, p, b, blocks[0])
			}
			if b := run(t, x, p); !same(b, blocks[len(blocks)-1]) {
				t.Fatalf("Run of %v, plan %v, is %v, not %v", x, p, b, blocks[len(blocks)-1])
			}
		}
	}
}

// P15.1, P15.2: a transform is the plan ready, and then all its passes; of kernel split, which has none, split's of the numbers that are ready.
func TestRunIsReadyAndNext(t *testing.T) {
	t.Parallel()
	for _, p := range plan.Every() {
		for _, x := range samples(p) {
			b := ready(t, x, p)
			for i := range passesByWords(p) {
				b = next(t, b, p, i)
			}
			if p.Kernel == api.KSplit {
				y, e := split.Run(b.X, p.Format, p.Mode, p.Inverse)
				if e != api.OK {
					t.Fatalf("split's Run of %v, plan %v: error %d", b.X, p, e)
				}
				b = api.Block{X: y, Exp: b.Exp + p.Log}
			}
			if all := run(t, x, p); !same(all, b) {
				t.Fatalf("Run of %v, plan %v, is %v, step by step %v", x, p, all, b)
			}
		}
	}
}

// exactBin is the exact transform's bin.
func exactBin(x []api.Cx, k int, inverse bool) complex128 {
	sum := complex(0, 0)
	for j, a := range x {
		sum += complex(float64(a.Re), float64(a.Im)) * root(k*j, len(x), inverse)
	}
	return sum
}

// lossOf is what a block of a plan loses at most, of each part's own unit.
func lossOf(t *testing.T, p api.Plan, b api.Block) float64 {
	t.Helper()
	lost, e := budget.Of(p, b.Shifts)
	if e != api.OK {
		t.Fatalf("the shifts %v are none of the plan %v: error %d", b.Shifts, p, e)
	}
	return float64(lost) / 64
}

// P15.1, P3: a transform is as near to the exact one as its loss tells, if nothing was clamped; its shifts are the plan's.
func TestRunIsNear(t *testing.T) {
	t.Parallel()
	for _, p := range plan.Every() {
		for _, x := range samples(p) {
			b := run(t, x, p)
			// What is less than a hundredth may come of the exact bin's own rounding.
			most := lossOf(t, p, b) + 0.01
			for k, z := range b.X {
				exact := exactBin(x, k, p.Inverse)
				re, im := math.Ldexp(real(exact), -b.Exp), math.Ldexp(imag(exact), -b.Exp)
				if !b.Sat && (math.Abs(re-float64(z.Re)) > most || math.Abs(im-float64(z.Im)) > most) {
					t.Fatalf("Run of %v, plan %v, has bin %d %v, exact are %v and %v", x, p, k, z, re, im)
				}
			}
		}
	}
}

// P15.1, R2, P1: a plan that may not be is told, ahead of all that is wrong beside it, and beside that is nothing.
func TestErrPlan(t *testing.T) {
	for _, p := range wrongPlans() {
		for _, x := range [][]api.Cx{nil, {}, make([]api.Cx, 3), counted, least, make([]api.Cx, 64), {{Re: math.MinInt}, {Im: math.MaxInt}, {}, {}}} {
			refused(t, x, p, api.ErrPlan)
			for _, pass := range []int{-1, 0, 1, 6, math.MinInt, math.MaxInt} {
				for _, exp := range []int{0, 101, math.MinInt} {
					nextRefused(t, api.Block{X: x, Exp: exp, Sat: true, Shifts: []int{1}}, p, pass, api.ErrPlan)
				}
			}
		}
	}
}

// beyond are n numbers of which no part may be.
func beyond(n int) []api.Cx { return slices.Repeat([]api.Cx{{Re: math.MinInt, Im: 1 << 40}}, n) }

// P15.1, P15.2, R2, R3, P1: numbers that are not 2^Log are told, ahead of a part or an exponent that may not be.
func TestErrSize(t *testing.T) {
	for _, p := range plan.Every() {
		for n := range 70 {
			if n == 1<<p.Log {
				continue
			}
			for _, x := range [][]api.Cx{make([]api.Cx, n), beyond(n), slices.Clip(spread(70, 1, 9)[:n]), spread(70, 1, 9)[:n]} {
				refused(t, x, p, api.ErrSize)
				for i := range passesByWords(p) {
					nextRefused(t, api.Block{X: x, Exp: n}, p, i, api.ErrSize)
					nextRefused(t, api.Block{X: x, Exp: -1000, Sat: true, Shifts: []int{2}}, p, i, api.ErrSize)
				}
			}
		}
		refused(t, nil, p, api.ErrSize)
		for _, n := range []int{128, 256, 1 << 12} {
			refused(t, beyond(n), p, api.ErrSize)
		}
	}
}

// parts are numbers, one of which has another Re, another Im, or both.
func parts(x []api.Cx, k, part int, do func(x []api.Cx)) {
	for _, a := range []api.Cx{{Re: part, Im: x[k].Im}, {Re: x[k].Re, Im: part}, {Re: part, Im: part}} {
		one := slices.Clone(x)
		one[k] = a
		do(one)
	}
}

// P15.1, R2, P1: so is a part that is no mantissa, of whichever number it is; the format's ends are mantissas.
func TestErrRange(t *testing.T) {
	for _, p := range plan.Every() {
		n, one := 1<<p.Log, 1<<bitsOf(p.Format)
		x := edges(n, p.Mode, -one, one-1)
		run(t, x, p)
		wrong := append([]int{one, one + 1, -one - 1, -one - 2, 2 * one, -2 * one, 1<<31 + 1, -1<<31 - 1}, extremes...)
		for k := range n {
			for _, part := range wrong {
				parts(x, k, part, func(x []api.Cx) { refused(t, x, p, api.ErrRange) })
			}
		}
		refused(t, beyond(n), p, api.ErrRange)
	}
}

// ahead are blocks of each kind that a plan's pass may be handed: their parts may be as great as the least mantissa either way, and what is in Sat and Shifts is not asked.
func ahead(p api.Plan) []api.Block {
	n, one := 1<<p.Log, 1<<bitsOf(p.Format)
	all := []api.Block{
		{X: make([]api.Cx, n)},
		{X: make([]api.Cx, n), Exp: -100, Sat: true, Shifts: []int{}},
		{X: edges(n, p.Mode, -one, one), Exp: 100, Shifts: []int{1, 2, 3}},
		{X: slices.Repeat([]api.Cx{{Re: one, Im: one}}, n), Exp: 99, Sat: true, Shifts: []int{math.MinInt, -1, 100, math.MaxInt}},
		{X: slices.Repeat([]api.Cx{{Re: -one, Im: one}}, n), Exp: -99, Shifts: make([]int, 40)},
		{X: alone(n, 2, api.Cx{Re: one}), Exp: 7, Sat: true, Shifts: []int{0}},
	}
	for i, x := range samples(p) {
		all = append(all, api.Block{X: x, Exp: i*8 - 100, Sat: i%2 != 0, Shifts: []int{i, -i}})
	}
	return all
}

// P15.2: the blocks behind each pass of all plans, against the words.
func TestNextByWords(t *testing.T) {
	t.Parallel()
	for _, p := range plan.Every() {
		for i := range passesByWords(p) {
			for _, b := range ahead(p) {
				if behind, want := next(t, b, p, i), nextByWords(b, p, i); !same(behind, want) {
					t.Fatalf("Next of %v, plan %v, pass %d, is %v, not %v", b, p, i, behind, want)
				}
			}
		}
	}
}

// P15.2: passes by hand; how far they shift hangs on the numbers, only if they are shifted as needed.
func TestNextByHand(t *testing.T) {
	flipped := []api.Cx{{Re: 1}, {Re: 3}, {Re: 2}, {Re: 4}}
	behind := []api.Cx{{Re: 4}, {Re: -2}, {Re: 6}, {Re: -2}}
	for _, c := range []struct {
		x    []api.Cx
		p    api.Plan
		pass int
		want []api.Cx
		s    int
	}{
		{flipped, api.Plan{Log: 2, Scale: api.SNone}, 0, behind, 0},
		{behind, api.Plan{Log: 2, Scale: api.SNone}, 1, []api.Cx{{Re: 10}, {Re: -2, Im: 2}, {Re: -2}, {Re: -2, Im: -2}}, 0},
		{behind, api.Plan{Log: 2, Scale: api.SNone, Inverse: true}, 1, []api.Cx{{Re: 10}, {Re: -2, Im: -2}, {Re: -2}, {Re: -2, Im: 2}}, 0},
		{flipped, api.Plan{Log: 2}, 0, []api.Cx{{Re: 2}, {Re: -1}, {Re: 3}, {Re: -1}}, 1},
		{flipped, api.Plan{Log: 2, Scale: api.SBlock}, 0, behind, 0},
		{flipped, api.Plan{Log: 2, Kernel: api.KFour}, 0, []api.Cx{{Re: 2}, {Re: -1}, {Re: -1}, {Re: -1, Im: -1}}, 2},
		{flipped, api.Plan{Log: 2, Kernel: api.KFour, Mode: api.MUp}, 0, []api.Cx{{Re: 3}, {Im: 1}, {}, {}}, 2},
		{flipped, api.Plan{Log: 2, Kernel: api.KFour, Scale: api.SBlock}, 0, []api.Cx{{Re: 10}, {Re: -2, Im: 2}, {Re: -2}, {Re: -2, Im: -2}}, 0},
	} {
		for _, b := range []api.Block{{X: c.x}, {X: c.x, Exp: -100, Sat: true, Shifts: []int{5, 6}}, {X: c.x, Exp: 100, Shifts: []int{0}}} {
			want := api.Block{X: c.want, Exp: b.Exp + c.s, Sat: b.Sat, Shifts: slices.Concat(b.Shifts, []int{c.s})}
			if got := next(t, b, c.p, c.pass); !same(got, want) {
				t.Errorf("Next of %v, plan %v, pass %d, is %v, not %v", b, c.p, c.pass, got, want)
			}
		}
	}
}

// P15.2: how far passes shift as needed, next to where it changes, whichever part is the greatest.
func TestNextShiftsByHand(t *testing.T) {
	for _, c := range []struct{ part, format, two, four int }{
		{0, api.F15, 0, 0}, {4096, api.F15, 0, 0}, {4097, api.F15, 0, 1}, {8192, api.F15, 0, 1}, {8193, api.F15, 1, 2},
		{16384, api.F15, 1, 2}, {16385, api.F15, 2, 3}, {32767, api.F15, 2, 3}, {32768, api.F15, 2, 3},
		{1 << 28, api.F31, 0, 0}, {1<<28 + 1, api.F31, 0, 1}, {1 << 29, api.F31, 0, 1}, {1<<29 + 1, api.F31, 1, 2},
		{1 << 30, api.F31, 1, 2}, {1<<30 + 1, api.F31, 2, 3}, {1<<31 - 1, api.F31, 2, 3}, {1 << 31, api.F31, 2, 3},
	} {
		for place, a := range []api.Cx{{Re: c.part}, {Im: c.part}, {Re: -c.part}, {Im: -c.part}, {Re: c.part, Im: 1}} {
			x := alone(16, 3*place, a)
			for kernel, s := range map[int]int{api.KTwo: c.two, api.KFour: c.four} {
				b := next(t, api.Block{X: x}, api.Plan{Format: c.format, Log: 4, Kernel: kernel, Scale: api.SBlock}, 1)
				if b.Exp != s || !slices.Equal(b.Shifts, []int{s}) {
					t.Errorf("with a part %d, kernel %d shifts by %v, exponent %d, not by %d", c.part, kernel, b.Shifts, b.Exp, s)
				}
			}
		}
	}
}

// P15.2: each part by itself is clamped, to either end, and none that is a mantissa; only if nothing is shifted.
func TestNextClamps(t *testing.T) {
	for _, format := range []int{api.F15, api.F31} {
		one := 1 << bitsOf(format)
		for _, kernel := range []int{api.KTwo, api.KFour} {
			p := api.Plan{Format: format, Log: 2, Kernel: kernel, Scale: api.SNone}
			for _, c := range []struct {
				a, b, want api.Cx
				was        bool
			}{
				{api.Cx{Re: one - 2}, api.Cx{Re: 1}, api.Cx{Re: one - 1}, false},
				{api.Cx{Re: one - 1}, api.Cx{Re: 1}, api.Cx{Re: one - 1}, true},
				{api.Cx{Im: one - 1}, api.Cx{Im: 1}, api.Cx{Im: one - 1}, true},
				{api.Cx{Re: one - 1, Im: 5}, api.Cx{Re: one - 1, Im: 6}, api.Cx{Re: one - 1, Im: 11}, true},
				{api.Cx{Re: -one + 1}, api.Cx{Re: -1}, api.Cx{Re: -one}, false},
				{api.Cx{Re: -one}, api.Cx{Re: -1}, api.Cx{Re: -one}, true},
				{api.Cx{Im: -one}, api.Cx{Re: 3, Im: -one}, api.Cx{Re: 3, Im: -one}, true},
				{api.Cx{Re: one}, api.Cx{}, api.Cx{Re: one - 1}, true},
				{api.Cx{Re: one, Im: -one}, api.Cx{Re: -2}, api.Cx{Re: one - 2, Im: -one}, true},
			} {
				for _, sat := range []bool{false, true} {
					b := next(t, api.Block{X: []api.Cx{c.a, c.b, {}, {}}, Sat: sat}, p, 0)
					if b.X[0] != c.want || b.Sat != (sat || c.was) {
						t.Errorf("%v and %v become %v, %t, not %v, %t (%t ahead)", c.a, c.b, b.X[0], b.Sat, c.want, c.was, sat)
					}
				}
			}
		}
	}
}

// P15.2: of which number a part is clamped does not matter to Sat.
func TestNextTellsOfEachClamped(t *testing.T) {
	for k := range 64 {
		// A pass of roots of 1 takes a number into two as it is, so one that is no mantissa is clamped, wherever it is.
		b := next(t, api.Block{X: alone(64, k, api.Cx{Re: 1 << 15})}, api.Plan{Log: 6, Scale: api.SNone}, 0)
		if !b.Sat {
			t.Errorf("number %d was clamped, but that is not told", k)
		}
		x := alone(64, k, api.Cx{Re: 3, Im: 1<<15 - 1})
		if b := next(t, api.Block{X: x}, api.Plan{Log: 6, Scale: api.SNone}, 0); b.Sat {
			t.Errorf("number %d was not clamped, but that is told", k)
		}
	}
}

// P15.2, R2: a pass of a number that a plan has not is told, ahead of the numbers, their parts and the exponent; kernel split has none.
func TestNextErrArg(t *testing.T) {
	for _, p := range plan.Every() {
		many := len(passesByWords(p))
		for _, pass := range append([]int{-1, -2, -many - 1, many, many + 1, many + 2, 7, 256, 1 << 16}, extremes...) {
			for _, b := range []api.Block{{X: make([]api.Cx, 1<<p.Log)}, {}, {X: make([]api.Cx, 5)}, {X: beyond(1 << p.Log)}, {X: make([]api.Cx, 1<<p.Log), Exp: 101}} {
				nextRefused(t, b, p, pass, api.ErrArg)
			}
		}
	}
	for pass := range 8 {
		for log := api.MinLog; log <= api.MaxLog; log++ {
			nextRefused(t, api.Block{X: make([]api.Cx, 1<<log), Exp: 1}, api.Plan{Log: log, Kernel: api.KSplit}, pass, api.ErrArg)
		}
	}
}

// P15.2, R2: so is a part, or an exponent, out of its range; that range's ends are tested by the words.
func TestNextErrRange(t *testing.T) {
	t.Parallel()
	for _, p := range plan.Every() {
		n, one := 1<<p.Log, 1<<bitsOf(p.Format)
		x := edges(n, p.Mode, -one, one)
		wrong := append([]int{one + 1, one + 2, -one - 1, -one - 2, 2 * one, -2 * one, 1<<31 + 1, -1<<31 - 1}, extremes...)
		for i := range passesByWords(p) {
			for k := range n {
				for _, part := range wrong {
					parts(x, k, part, func(x []api.Cx) { nextRefused(t, api.Block{X: x}, p, i, api.ErrRange) })
				}
			}
			for _, exp := range append([]int{-101, -102, 101, 102, -1000, 1000, 256, -256}, extremes...) {
				nextRefused(t, api.Block{X: x, Exp: exp}, p, i, api.ErrRange)
				nextRefused(t, api.Block{X: make([]api.Cx, n), Exp: exp, Sat: true, Shifts: []int{0}}, p, i, api.ErrRange)
			}
		}
	}
}

// areMantissas tells whether each part is a mantissa.
func areMantissas(x []api.Cx, format int) bool {
	one := 1 << bitsOf(format)
	for _, a := range x {
		if min(a.Re, a.Im) < -one || max(a.Re, a.Im) >= one {
			return false
		}
	}
	return true
}

// allAlong goes through the blocks of a transform: the one that is ready, and those behind each pass, or the transform itself, if it has none.
func allAlong(t *testing.T, x []api.Cx, p api.Plan, do func(b api.Block)) {
	t.Helper()
	b := ready(t, x, p)
	do(b)
	for i := range passesByWords(p) {
		b = next(t, b, p, i)
		do(b)
	}
	if p.Kernel == api.KSplit {
		do(run(t, x, p))
	}
}

// P15.3, P2: each part is a mantissa all along, of mantissas that make each bin greatest, and of others; nothing is clamped, but if nothing is shifted.
func TestPartsStayMantissas(t *testing.T) {
	t.Parallel()
	for _, p := range plan.Every() {
		one := 1 << bitsOf(p.Format)
		all := [][]api.Cx{spread(1<<p.Log, p.Mode, one-1), edges(1<<p.Log, p.Mode, -one, one-1)}
		// The three modes take turns at the bins.
		for bin := p.Mode; bin < 1<<p.Log; bin += 3 {
			all = append(all, towards(p, bin, bin%2 != 0))
		}
		for _, x := range all {
			allAlong(t, x, p, func(b api.Block) {
				if !areMantissas(b.X, p.Format) || b.Sat && p.Scale != api.SNone {
					t.Fatalf("on the way of %v, plan %v, is %v", x, p, b)
				}
			})
		}
	}
}

// P15.3: of zeros all are zeros, all along; shifted as needed, their exponent is 0.
func TestZerosStay(t *testing.T) {
	for _, p := range plan.Every() {
		zeros := make([]api.Cx, 1<<p.Log)
		allAlong(t, zeros, p, func(b api.Block) {
			if !slices.Equal(b.X, zeros) || b.Sat || p.Scale == api.SBlock && b.Exp != 0 {
				t.Errorf("of zeros, plan %v makes %v", p, b)
			}
		})
		want := map[int]int{api.SHalf: 1 + p.Log}[p.Scale]
		if b := run(t, zeros, p); b.Exp != want {
			t.Errorf("the exponent of zeros, plan %v, is %d, not %d", p, b.Exp, want)
		}
	}
}

// P15.3, P4: what is shifted as needed keeps its greatest part at 2^(B-5) or more, whatever numbers come in that are not all 0.
func TestGreatestStaysGreat(t *testing.T) {
	t.Parallel()
	for _, p := range plan.Every() {
		if p.Scale != api.SBlock {
			continue
		}
		n, one := 1<<p.Log, 1<<bitsOf(p.Format)
		all := samples(p)
		for place := range n {
			// Next to where rooms and shifts change a number alone is shifted the farthest, or is the smallest.
			for i, part := range []int{1, 3, 181, one/4 + 1, one/2 + 1, one - 1} {
				a := []api.Cx{{Re: part, Im: part / 3}, {Im: -part}, {Re: part, Im: -part}}[(place+i+p.Mode)%3]
				all = append(all, alone(n, place, a))
			}
		}
		for _, x := range all {
			if b := run(t, x, p); greatestOf(x) != 0 && greatestOf(b.X) < 1<<(bitsOf(p.Format)-5) {
				t.Fatalf("of %v plan %v makes %v", x, p, b)
			}
		}
	}
}

// R4, and the language's rule 7: what is handed in stays as it was, and what is answered is apart from it: neither numbers nor shifts are shared, nor what lies behind their ends.
func TestNumbersStay(t *testing.T) {
	for _, p := range plan.Every() {
		n := 1 << p.Log
		numbers, shifts := spread(n+8, n, 1<<14), []int{1, 2, 3, 4, 5}
		x, first := numbers[:n], shifts[:2]
		wasNumbers, wasShifts := slices.Clone(numbers), slices.Clone(shifts)
		blocks := []api.Block{run(t, x, p), ready(t, x, p)}
		for i := range passesByWords(p) {
			blocks = append(blocks, next(t, api.Block{X: x, Shifts: first}, p, i))
		}
		for _, b := range blocks {
			clear(b.X[:cap(b.X)])
			clear(b.Shifts[:cap(b.Shifts)])
		}
		nextRefused(t, api.Block{X: x, Exp: 101, Shifts: first}, p, -1, api.ErrArg)
		if !slices.Equal(numbers, wasNumbers) || !slices.Equal(shifts, wasShifts) {
			t.Fatalf("of plan %v, what is answered shares with what is handed in, or changes it", p)
		}
	}
}

// R1: a call tells the same, whatever was called ahead of it, and whatever was done with what it told.
func TestNothingIsKept(t *testing.T) {
	for _, p := range plan.Every() {
		x := spread(1<<p.Log, 5, 1<<15-1)
		first := run(t, x, p)
		told := api.Block{X: slices.Clone(first.X), Exp: first.Exp, Sat: first.Sat, Shifts: slices.Clone(first.Shifts)}
		clear(first.X)
		clear(first.Shifts)
		other := p
		other.Inverse, other.Format = !p.Inverse, 1-p.Format
		run(t, x, other)
		refused(t, x[1:], p, api.ErrSize)
		if again := run(t, x, p); !same(again, told) {
			t.Errorf("Run of plan %v is first %v, then %v", p, told, again)
		}
	}
}
