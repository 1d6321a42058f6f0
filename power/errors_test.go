package power_test

import (
	"slices"
	"testing"

	"headroom/api"
	"headroom/power"
)

// refused holds the error that all calls tell against ErrRange; beside it is nothing.
func refused(t *testing.T, x []api.Cx) {
	t.Helper()
	if all, e := power.Spectrum(x); len(all) != 0 || e != api.ErrRange {
		t.Errorf("Spectrum of %v is %v, error %d", x, all, e)
	}
	if over, left, e := power.Total(x); over != 0 || left != 0 || e != api.ErrRange {
		t.Errorf("Total of %v is %d, %d, error %d", x, over, left, e)
	}
	if place, e := power.Peak(x); place != 0 || e != api.ErrRange {
		t.Errorf("Peak of %v is %d, error %d", x, place, e)
	}
}

// wrongParts are parts that numbers may not have, next to those that they may have and far from them.
var wrongParts = append([]int{most + 1, most + 2, -most - 1, -most - 2, 3 << 30, -3 << 30}, extremes...)

// P20.1, R2, P1: a part that may not be is told, in each number, whichever part it is, beside others that may be.
func TestErrRange(t *testing.T) {
	for _, n := range []int{1, 2, 3, 4, 9, 64} {
		for _, limit := range []int{1, most} {
			x := numbers(n, n, limit)
			for place := range x {
				for _, part := range wrongParts {
					for _, a := range []api.Cx{{Re: part}, {Im: part}, {Re: part, Im: most}, {Re: -most, Im: part}, {Re: part, Im: part}} {
						y := slices.Clone(x)
						y[place] = a
						refused(t, y)
					}
				}
			}
		}
	}
}

// P20.1, P1: so are two of them, and numbers that all may not be.
func TestErrRangeOfMany(t *testing.T) {
	for _, part := range wrongParts {
		for _, other := range wrongParts {
			refused(t, []api.Cx{{Re: part, Im: other}})
			refused(t, []api.Cx{{Re: part}, {}, {Im: other}})
			refused(t, []api.Cx{{Re: most, Im: most}, {Im: part}, {Re: other}, {Re: most, Im: most}})
		}
		refused(t, slices.Repeat([]api.Cx{{Re: part, Im: part}}, 1000))
	}
}

// P20.1: what is next to those is told no error, at each edge.
func TestEdgesMayBe(t *testing.T) {
	for _, a := range grid(0, most-1, most) {
		x := []api.Cx{a}
		spectrum(t, x)
		total(t, x)
		peak(t, x)
	}
}

// noNumbers are lists without numbers: one has such as may not be behind its end.
func noNumbers() [][]api.Cx {
	behind := []api.Cx{{Re: most + 1}, {Im: -most - 1}}
	return [][]api.Cx{nil, {}, make([]api.Cx, 0, 9), behind[:0], behind[1:1]}
}

// P20.2, R2, R3: of no numbers there is no peak, and beside the error is nothing.
func TestPeakErrNone(t *testing.T) {
	for _, x := range noNumbers() {
		if place, e := power.Peak(x); place != 0 || e != api.ErrNone {
			t.Errorf("Peak of no numbers is %d, error %d", place, e)
		}
	}
}

// P20.1, R3: no numbers have no squares, and together they are 0.
func TestNoNumbers(t *testing.T) {
	for _, x := range noNumbers() {
		if all, e := power.Spectrum(x); len(all) != 0 || e != api.OK {
			t.Errorf("Spectrum of no numbers is %v, error %d", all, e)
		}
		if over, left, e := power.Total(x); over != 0 || left != 0 || e != api.OK {
			t.Errorf("Total of no numbers is %d, %d, error %d", over, left, e)
		}
	}
}
