package real_test

import (
	"math"
	"slices"
	"testing"

	"headroom/api"
	"headroom/real"
)

// wrongPlans are plans that may not be here: each by one field, and such as lie far from all that may; plans of 64 numbers and inverse ones, which may be elsewhere, are among them.
func wrongPlans() []api.Plan {
	all := []api.Plan{
		{}, {Log: 1}, {Log: 6}, {Log: 7}, {Log: -1}, {Log: 2, Format: -1}, {Log: 2, Format: 2}, {Log: 2, Kernel: -1}, {Log: 2, Kernel: 3},
		{Log: 2, Scale: -1}, {Log: 2, Scale: 3}, {Log: 2, Mode: -1}, {Log: 2, Mode: 3}, {Log: 6, Mode: 3, Inverse: true},
		{Log: 5, Kernel: api.KSplit, Scale: api.SBlock}, {Log: 2, Kernel: api.KSplit, Scale: api.SNone, Inverse: true},
		{Log: 6, Inverse: true}, {Format: api.F31, Log: 6, Kernel: api.KFour, Scale: api.SBlock, Mode: api.MEven},
	}
	for _, p := range plans() {
		p.Inverse = true
		all = append(all, p)
		p.Inverse, p.Log = false, 6
		all = append(all, p)
	}
	for _, x := range extremes {
		all = append(all,
			api.Plan{Log: x}, api.Plan{Log: 2, Format: x}, api.Plan{Log: 2, Kernel: x}, api.Plan{Log: 2, Scale: x}, api.Plan{Log: 2, Mode: x},
			api.Plan{Format: x, Log: x, Kernel: x, Scale: x, Mode: x, Inverse: true})
	}
	return all
}

// isNothing tells whether a block is the zero one.
func isNothing(b api.Block) bool {
	return len(b.X) == 0 && b.Exp == 0 && !b.Sat && len(b.Shifts) == 0
}

// binsRefused holds the error that Bins tells against what it is to be; beside it is nothing.
func binsRefused(t *testing.T, x []int, p api.Plan, want api.Errno) {
	t.Helper()
	if b, e := real.Bins(x, p); !isNothing(b) || e != want {
		t.Errorf("Bins of %d numbers, plan %v, are %v, error %d, not %d", len(x), p, b, e, want)
	}
}

// untangleRefused does so of Untangle.
func untangleRefused(t *testing.T, b api.Block, p api.Plan, want api.Errno) {
	t.Helper()
	if y, e := real.Untangle(b, p); !isNothing(y) || e != want {
		t.Errorf("Untangle of %d numbers, exponent %d, plan %v, is %v, error %d, not %d", len(b.X), b.Exp, p, y, e, want)
	}
}

// refused does so of both.
func refused(t *testing.T, x []int, b api.Block, p api.Plan, want api.Errno) {
	t.Helper()
	binsRefused(t, x, p, want)
	untangleRefused(t, b, p, want)
}

// beyond are n complex numbers of which no part may be.
func beyond(n int) []api.Cx { return slices.Repeat([]api.Cx{{Re: math.MinInt, Im: 1 << 40}}, n) }

// counts are such as numbers may have, or not.
var counts = []int{0, 1, 2, 3, 4, 5, 7, 8, 9, 12, 15, 16, 17, 31, 32, 33, 63, 64, 65, 127, 128, 129, 256, 1 << 10}

// P18.1, P18.2, R2, P1: a plan that may not be here is told, ahead of all that is wrong beside it.
func TestErrPlan(t *testing.T) {
	for _, p := range wrongPlans() {
		for _, n := range counts {
			binsRefused(t, make([]int, n), p, api.ErrPlan)
			binsRefused(t, slices.Repeat([]int{math.MaxInt}, n), p, api.ErrPlan)
			untangleRefused(t, api.Block{X: make([]api.Cx, n), Shifts: []int{1}}, p, api.ErrPlan)
			untangleRefused(t, api.Block{X: beyond(n), Exp: math.MinInt, Sat: true}, p, api.ErrPlan)
		}
		refused(t, nil, api.Block{}, p, api.ErrPlan)
		for _, shifts := range [][]int{nil, {}, {1, 1}, {0, 0}, {2, 2, 2}, {1, 1, 1, 1, 1, 1}, {-1}, extremes} {
			if lost, e := real.Loss(p, shifts); lost != 0 || e != api.ErrPlan {
				t.Errorf("Loss of %v, shifts %v, is %d, error %d", p, shifts, lost, e)
			}
		}
	}
}

// P18.2, R2, R3, P1: numbers that are not as many are told, ahead of one that may not be, and of the exponent.
func TestErrSize(t *testing.T) {
	for _, p := range plans() {
		m := 1 << p.Log
		for _, n := range counts {
			if n != 2*m {
				binsRefused(t, make([]int, n), p, api.ErrSize)
				binsRefused(t, slices.Repeat([]int{math.MinInt}, n), p, api.ErrSize)
				binsRefused(t, parts(1<<10, 1, 9)[:n], p, api.ErrSize)
			}
			if n != m {
				untangleRefused(t, api.Block{X: make([]api.Cx, n), Shifts: []int{1}}, p, api.ErrSize)
				untangleRefused(t, api.Block{X: paired(parts(1<<11, 1, 9))[:n], Exp: 101}, p, api.ErrSize)
				untangleRefused(t, api.Block{X: beyond(n), Exp: math.MaxInt, Sat: true}, p, api.ErrSize)
			}
		}
		refused(t, nil, api.Block{}, p, api.ErrSize)
		// A bin more than numbers are told, and they can't be handed in again.
		untangleRefused(t, untangle(t, api.Block{X: make([]api.Cx, m)}, p), p, api.ErrSize)
	}
}

// P18.2, P1: so is one of the real numbers that is no mantissa, whichever it is; both ends are mantissas.
func TestBinsErrRange(t *testing.T) {
	t.Parallel()
	for _, p := range plans() {
		n, one := 2<<p.Log, oneOf(p)
		x := edges(n, p.Mode, -one, one-1)
		bins(t, x, p)
		wrong := append([]int{one, one + 1, -one - 1, -one - 2, 2 * one, -2 * one, 1<<31 + 1, -1<<31 - 1}, extremes...)
		for place := range x {
			for _, part := range wrong {
				other := slices.Clone(x)
				other[place] = part
				binsRefused(t, other, p, api.ErrRange)
			}
		}
		binsRefused(t, slices.Repeat([]int{one}, n), p, api.ErrRange)
		binsRefused(t, slices.Repeat([]int{math.MinInt}, n), p, api.ErrRange)
	}
}

// P18.2, P1: so is a part of a block that is not from -2^B to 2^B, and an exponent that is not from -100 to 100; the ends of both may be.
func TestUntangleErrRange(t *testing.T) {
	t.Parallel()
	for _, p := range plans() {
		m, one := 1<<p.Log, oneOf(p)
		x := paired(edges(2*m, p.Mode, -one, one))
		wrong := append([]int{one + 1, one + 2, -one - 1, -one - 2, 2 * one, -2 * one, 1<<31 + 1, -1<<31 - 1}, extremes...)
		for k, a := range x {
			for _, part := range wrong {
				for _, z := range []api.Cx{{Re: part, Im: a.Im}, {Re: a.Re, Im: part}, {Re: part, Im: part}} {
					other := slices.Clone(x)
					other[k] = z
					untangleRefused(t, api.Block{X: other, Exp: k, Shifts: []int{1}}, p, api.ErrRange)
				}
			}
		}
		for _, exp := range []int{-100, -99, -1, 0, 99, 100} {
			if y := untangle(t, api.Block{X: x, Exp: exp}, p); y.Exp != exp+1 {
				t.Errorf("the exponent %d is %d behind", exp, y.Exp)
			}
		}
		for _, exp := range append([]int{-101, -102, 101, 102, 128, 156, 200, 256, -256, 1 << 16}, extremes...) {
			untangleRefused(t, api.Block{X: x, Exp: exp}, p, api.ErrRange)
			untangleRefused(t, api.Block{X: beyond(m), Exp: exp, Sat: true, Shifts: []int{7}}, p, api.ErrRange)
		}
		untangleRefused(t, api.Block{X: beyond(m)}, p, api.ErrRange)
	}
}
