package near_test

import (
	"math"
	"slices"
	"testing"

	"headroom/api"
	"headroom/plan"
)

// beyond are n numbers of which no part may be.
func beyond(n int) []api.Cx { return slices.Repeat([]api.Cx{{Re: math.MinInt, Im: 1 << 40}}, n) }

// wrongShifts are none of any plan.
func wrongShifts() [][]int {
	return [][]int{{-1}, {4}, {1, 1, 1, 1, 1, 1, 1}, {math.MinInt, 0}, {0, math.MaxInt, 0}, {0, 0, 3, 4, 0, 0}}
}

// eachWrong goes through blocks in which a part is wrong, or the exponent, or the shifts, or all of these, with so many numbers.
func eachWrong(n int, do func(b api.Block)) {
	do(api.Block{X: beyond(n)})
	do(api.Block{X: make([]api.Cx, n), Exp: math.MinInt, Sat: true})
	do(api.Block{X: make([]api.Cx, n), Exp: 51})
	for _, shifts := range wrongShifts() {
		do(api.Block{X: make([]api.Cx, n), Shifts: shifts})
		do(api.Block{X: beyond(n), Exp: math.MaxInt, Sat: true, Shifts: shifts})
	}
}

// P17.1, P17.2, R2, P1: a plan that may not be is told, ahead of all that is wrong beside it.
func TestErrPlan(t *testing.T) {
	for _, p := range wrongPlans() {
		for _, x := range [][]api.Cx{nil, {}, make([]api.Cx, 3), counted, make([]api.Cx, 64), beyond(4), beyond(5)} {
			upRefused(t, x, p, api.ErrPlan)
			refused(t, x, p, api.Block{}, api.ErrPlan)
			refused(t, x, p, api.Block{X: slices.Clone(x)}, api.ErrPlan)
			eachWrong(len(x), func(b api.Block) { refused(t, x, p, b, api.ErrPlan) })
			eachWrong(5, func(b api.Block) { refused(t, x, p, b, api.ErrPlan) })
		}
	}
}

// P17.1, P17.2, R2, R3, P1: numbers that are not 2^Log are told, ahead of a part that may not be, and of all that is wrong with the block, which has as many.
func TestErrSizeOfNumbers(t *testing.T) {
	for _, p := range plan.Every() {
		shifts := shiftsOf(t, p)
		for _, n := range []int{0, 1, 2, 3, 4, 5, 7, 8, 9, 15, 16, 17, 31, 32, 33, 63, 64, 65, 128, 256, 1 << 10} {
			if n == 1<<p.Log {
				continue
			}
			for _, x := range [][]api.Cx{make([]api.Cx, n), beyond(n), spread(1<<10, 1, 9)[:n]} {
				upRefused(t, x, p, api.ErrSize)
				refused(t, x, p, api.Block{X: make([]api.Cx, n), Shifts: shifts}, api.ErrSize)
				refused(t, x, p, api.Block{X: make([]api.Cx, 1<<p.Log), Shifts: shifts}, api.ErrSize)
			}
			refused(t, beyond(n), p, api.Block{X: beyond(n), Exp: -1000, Shifts: []int{9}}, api.ErrSize)
		}
		upRefused(t, nil, p, api.ErrSize)
		refused(t, nil, p, api.Block{Shifts: shifts}, api.ErrSize)
	}
}

// wrongParts are no mantissas of a plan's format, next to them and far from them.
func wrongParts(p api.Plan) []int {
	one := oneOf(p)
	return append([]int{one, one + 1, -one - 1, -one - 2, 2 * one, -2 * one, 1<<31 + 1, -1<<31 - 1}, extremes...)
}

// eachPart goes through numbers, one of which has another Re, another Im, or both.
func eachPart(x []api.Cx, k, part int, do func(x []api.Cx)) {
	for _, a := range []api.Cx{{Re: part, Im: x[k].Im}, {Re: x[k].Re, Im: part}, {Re: part, Im: part}} {
		one := slices.Clone(x)
		one[k] = a
		do(one)
	}
}

// P17.1, P17.2, R2, P1: so is a part of the numbers that is no mantissa, ahead of how many numbers the block has; the format's ends are mantissas.
func TestErrRangeOfNumbers(t *testing.T) {
	t.Parallel()
	for _, p := range plan.Every() {
		n, one, shifts := 1<<p.Log, oneOf(p), shiftsOf(t, p)
		x := edges(n, p.Mode, -one, one-1)
		upOf(t, x, p)
		// The three modes take turns at the numbers.
		for k := p.Mode; k < n; k += 3 {
			for _, part := range wrongParts(p) {
				eachPart(x, k, part, func(x []api.Cx) {
					upRefused(t, x, p, api.ErrRange)
					refused(t, x, p, api.Block{X: x[1:], Exp: 1, Shifts: shifts}, api.ErrRange)
				})
			}
		}
		refused(t, beyond(n), p, api.Block{X: make([]api.Cx, n), Shifts: shifts}, api.ErrRange)
		refused(t, beyond(n), p, api.Block{X: beyond(n + 1), Exp: 1000, Shifts: []int{9}}, api.ErrRange)
	}
}

// P17.2, R2, R3: a block that has not as many numbers is told, ahead of its parts, its exponent and its shifts.
func TestErrSizeOfBlock(t *testing.T) {
	for _, p := range plan.Every() {
		x, shifts := spread(1<<p.Log, 2, 999), shiftsOf(t, p)
		for _, n := range []int{0, 1, 2, 3, 4, 5, 7, 8, 9, 15, 16, 17, 31, 32, 33, 63, 64, 65, 128, 256, 1 << 10} {
			if n == 1<<p.Log {
				continue
			}
			refused(t, x, p, api.Block{X: make([]api.Cx, n), Shifts: shifts}, api.ErrSize)
			refused(t, x, p, api.Block{X: spread(1<<10, 3, 9)[:n], Exp: 1, Sat: true, Shifts: shifts}, api.ErrSize)
			eachWrong(n, func(b api.Block) { refused(t, x, p, b, api.ErrSize) })
		}
		refused(t, x, p, api.Block{Shifts: shifts}, api.ErrSize)
	}
}

// P17.2, R2, P1: so is a part of the block that is no mantissa, of whichever number it is, ahead of its shifts.
func TestErrRangeOfParts(t *testing.T) {
	t.Parallel()
	for _, p := range plan.Every() {
		n, one, shifts := 1<<p.Log, oneOf(p), shiftsOf(t, p)
		x, y := make([]api.Cx, n), edges(n, p.Mode, -one, one-1)
		holdToWords(t, x, p, api.Block{X: y, Shifts: shifts})
		for k := p.Mode; k < n; k += 3 {
			for i, part := range wrongParts(p) {
				eachPart(y, k, part, func(y []api.Cx) {
					refused(t, x, p, api.Block{X: y, Exp: i % 21, Shifts: shifts}, api.ErrRange)
					refused(t, x, p, api.Block{X: y, Exp: i % 21, Shifts: wrongShifts()[i%6]}, api.ErrRange)
				})
			}
		}
		refused(t, x, p, api.Block{X: beyond(n), Exp: -1, Shifts: shifts}, api.ErrRange)
	}
}

// P17.2, R2, P1: so is a power that is not 0 to 20: what it is hangs on how far the numbers are put up.
func TestErrRangeOfPowers(t *testing.T) {
	t.Parallel()
	eachSample(func(x []api.Cx, p api.Plan) {
		u, y, shifts := upByWords(x, p), make([]api.Cx, len(x)), shiftsOf(t, p)
		least, most := api.Block{X: y, Exp: -u, Shifts: shifts}, api.Block{X: y, Exp: mostPower - u, Shifts: shifts}
		farOf(t, x, p, least)
		boundOf(t, x, p, least)
		boundOf(t, x, p, most)
		isWithin(t, x, p, most)
		for _, power := range []int{-1, -2, -u - 1, -100, mostPower + 1, mostPower + 2, mostPower + u + 1, 100, 256, 1 << 16} {
			refused(t, x, p, api.Block{X: y, Exp: power - u, Shifts: shifts}, api.ErrRange)
			refused(t, x, p, api.Block{X: y, Exp: power - u, Sat: true, Shifts: []int{-1}}, api.ErrRange)
		}
		for _, exp := range extremes {
			refused(t, x, p, api.Block{X: y, Exp: exp, Shifts: shifts}, api.ErrRange)
		}
	})
}

// othersOf are shifts that are none of a plan's: too few, too many, and one of them out of its range.
func othersOf(t *testing.T, p api.Plan) [][]int {
	most := shiftsOf(t, p)
	all := [][]int{slices.Concat(most, []int{0}), slices.Concat(most, []int{1}), slices.Concat(most, most, []int{0})}
	if len(most) > 0 {
		all = append(all, nil, most[1:], most[:len(most)-1])
	}
	for i, s := range most {
		wrong := append([]int{-1, s + 1, s + 2, 4, 256}, extremes...)
		if p.Scale != api.SBlock {
			wrong = append(wrong, s-1)
		}
		for _, other := range wrong {
			one := slices.Clone(most)
			one[i] = other
			all = append(all, one)
		}
	}
	return all
}

// P17.2: shifts that are none of the plan's are told last.
func TestErrArg(t *testing.T) {
	for _, p := range plan.Every() {
		x := spread(1<<p.Log, 4, 9)
		b := run(t, x, p)
		holdToWords(t, x, p, b)
		for _, shifts := range othersOf(t, p) {
			refused(t, x, p, api.Block{X: b.X, Exp: b.Exp, Shifts: shifts}, api.ErrArg)
			refused(t, x, p, api.Block{X: make([]api.Cx, 1<<p.Log), Exp: 20 - upByWords(x, p), Sat: true, Shifts: shifts}, api.ErrArg)
		}
	}
}
