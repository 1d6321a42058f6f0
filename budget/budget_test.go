package budget_test

import (
	"math"
	"math/big"
	"slices"
	"testing"

	"headroom/api"
	"headroom/budget"
	"headroom/plan"
)

// mostAhead is the most that may be lost ahead of a pass.
const mostAhead = 1 << 40

// extremes are values far from all that may be, or the same as some of these in their last 8, 16 or 32 bits.
var extremes = []int{
	math.MinInt, math.MinInt + 1, math.MinInt + 2, math.MinInt + 4, -1 << 62, -1 << 32, -1<<32 + 2, -1 << 31, -256, -254, -252,
	64, 128, 256, 257, 258, 259, 260, 1 << 16, 1<<16 + 1, 1<<16 + 2, 1<<16 + 4, 1 << 31, 1 << 32, 1<<32 + 1, 1<<32 + 2, 1<<32 + 4,
	1 << 62, math.MaxInt - 1, math.MaxInt,
}

// kernels, scales and shifts are all that Step may be handed.
var (
	kernels = []int{2, 4}
	scales  = []int{api.SHalf, api.SBlock, api.SNone}
	shifts  = []int{0, 1, 2, 3}
)

// wrongPlans are plans that may not be, each by one field, and such as lie far from all that may.
func wrongPlans() []api.Plan {
	all := []api.Plan{
		{}, {Log: 1}, {Log: 7}, {Log: -1}, {Log: 2, Format: -1}, {Log: 2, Format: 2}, {Log: 2, Kernel: -1}, {Log: 2, Kernel: 3},
		{Log: 2, Scale: -1}, {Log: 2, Scale: 3}, {Log: 2, Mode: -1}, {Log: 2, Mode: 3}, {Log: 6, Mode: 3, Inverse: true},
		{Log: 5, Kernel: api.KSplit, Scale: api.SBlock}, {Log: 5, Kernel: api.KSplit, Scale: api.SNone, Inverse: true},
	}
	for _, x := range extremes {
		all = append(all,
			api.Plan{Log: x}, api.Plan{Log: 2, Format: x}, api.Plan{Log: 2, Kernel: x}, api.Plan{Log: 2, Scale: x}, api.Plan{Log: 2, Mode: x},
			api.Plan{Log: x, Kernel: api.KSplit}, api.Plan{Format: x, Log: x, Kernel: x, Scale: x, Mode: x, Inverse: true})
	}
	return all
}

func start(t *testing.T, p api.Plan) int {
	t.Helper()
	lost, e := budget.Start(p)
	if e != api.OK {
		t.Fatalf("Start of %v: error %d", p, e)
	}
	return lost
}

func step(t *testing.T, e, kernel, scale, s int) int {
	t.Helper()
	lost, err := budget.Step(e, kernel, scale, s)
	if err != api.OK {
		t.Fatalf("Step of %d, kernel %d, scale %d, shift %d: error %d", e, kernel, scale, s, err)
	}
	return lost
}

func of(t *testing.T, p api.Plan, shifts []int) int {
	t.Helper()
	lost, e := budget.Of(p, shifts)
	if e != api.OK {
		t.Fatalf("Of %v with %v: error %d", p, shifts, e)
	}
	return lost
}

func fixed(t *testing.T, p api.Plan) []int {
	t.Helper()
	shifts, e := budget.Fixed(p)
	if e != api.OK {
		t.Fatalf("Fixed of %v: error %d", p, e)
	}
	return shifts
}

func stepRefused(t *testing.T, e, kernel, scale, s int) {
	t.Helper()
	if lost, err := budget.Step(e, kernel, scale, s); lost != 0 || err != api.ErrArg {
		t.Errorf("Step of %d, kernel %d, scale %d, shift %d is %d, error %d", e, kernel, scale, s, lost, err)
	}
}

func ofRefused(t *testing.T, p api.Plan, shifts []int, want api.Errno) {
	t.Helper()
	if lost, e := budget.Of(p, shifts); lost != 0 || e != want {
		t.Errorf("Of %v with %v is %d, error %d, not %d", p, shifts, lost, e, want)
	}
}

// behindByWords is what is lost behind a pass, by the document's words, in numbers of any size.
func behindByWords(e, kernel, scale, s int) int {
	lost := big.NewInt(int64(e))
	lost.Mul(lost, big.NewInt(int64(kernel)))
	if scale == api.SNone {
		return int(lost.Int64()) + map[int]int{2: 608, 4: 1632}[kernel]
	}
	// Divided and rounded up: what is left, if anything, makes one more.
	left := new(big.Int)
	lost.DivMod(lost, big.NewInt(int64([]int{1, 2, 4, 8}[s])), left)
	if left.Sign() != 0 {
		lost.Add(lost, big.NewInt(1))
	}
	return int(lost.Int64()) + map[int]int{2: 224, 4: 288}[kernel]
}

// mayShiftBy are the shifts that a plan's pass may have, by the document's words.
func mayShiftBy(scale, kernel int) []int {
	switch {
	case scale == api.SHalf && kernel == 2:
		return []int{1}
	case scale == api.SHalf:
		return []int{2}
	case scale == api.SNone:
		return []int{0}
	case kernel == 2:
		return []int{0, 1, 2}
	}
	return []int{0, 1, 2, 3}
}

// lossByWords is a plan's loss, by the document's words.
func lossByWords(t *testing.T, p api.Plan, shifts []int) int {
	t.Helper()
	lost := 0
	if p.Scale == api.SHalf {
		lost = 91
	}
	if p.Kernel == api.KSplit {
		return lost + 224*p.Log
	}
	for i, pass := range passes(t, p) {
		lost = behindByWords(lost, pass.Kernel, p.Scale, shifts[i])
	}
	return lost
}

func passes(t *testing.T, p api.Plan) []api.Pass {
	t.Helper()
	all, e := plan.Passes(p)
	if e != api.OK {
		t.Fatalf("Passes of %v: error %d", p, e)
	}
	return all
}

// shiftsOf are all shifts that a plan may have, each a list of its own.
func shiftsOf(t *testing.T, p api.Plan) [][]int {
	t.Helper()
	all := [][]int{{}}
	for _, pass := range passes(t, p) {
		var longer [][]int
		for _, ahead := range all {
			for _, s := range mayShiftBy(p.Scale, pass.Kernel) {
				longer = append(longer, append(slices.Clone(ahead), s))
			}
		}
		all = longer
	}
	return all
}

// losses are some that may be ahead of a pass: the first ones, and those next to powers of 2.
func losses() []int {
	var all []int
	for e := range 3000 {
		all = append(all, e)
	}
	for bit := 12; bit <= 40; bit++ {
		for e := 1<<bit - 9; e <= 1<<bit+9; e++ {
			if e <= mostAhead {
				all = append(all, e)
			}
		}
	}
	return all
}

// P14.1: what all plans lose at first: 91, if they halve, of kernel split too, else 0.
func TestStart(t *testing.T) {
	for _, p := range plan.Every() {
		want := map[int]int{api.SHalf: 91, api.SBlock: 0, api.SNone: 0}[p.Scale]
		if lost := start(t, p); lost != want {
			t.Errorf("Start of %v is %d, not %d", p, lost, want)
		}
	}
}

// P14.1, P14.2, R2: of a plan that may not be nothing is told.
func TestPlansThatMayNotBe(t *testing.T) {
	for _, p := range wrongPlans() {
		if lost, e := budget.Start(p); lost != 0 || e != api.ErrPlan {
			t.Errorf("Start of %v is %d, error %d", p, lost, e)
		}
		if shifts, e := budget.Fixed(p); len(shifts) != 0 || e != api.ErrPlan {
			t.Errorf("Fixed of %v is %v, error %d", p, shifts, e)
		}
		// The plan's error comes first, also where the shifts are none of any plan's.
		for _, shifts := range [][]int{nil, {}, {1, 1}, {2}, {-1}, make([]int, 100)} {
			ofRefused(t, p, shifts, api.ErrPlan)
		}
	}
}

// P14.1: some steps by hand.
func TestStepByHand(t *testing.T) {
	for _, c := range []struct{ e, kernel, scale, s, want int }{
		{91, 2, api.SHalf, 1, 315},
		{315, 2, api.SHalf, 1, 539},
		{91, 4, api.SHalf, 2, 379},
		{379, 4, api.SHalf, 2, 667},
		{0, 2, api.SHalf, 0, 224},
		{0, 4, api.SBlock, 3, 288},
		{0, 2, api.SNone, 0, 608},
		{0, 4, api.SNone, 0, 1632},
		{100, 2, api.SBlock, 0, 424},
		{100, 2, api.SBlock, 1, 324},
		{100, 2, api.SBlock, 2, 274},
		{101, 2, api.SBlock, 2, 275},
		{99, 2, api.SBlock, 2, 274},
		{1, 2, api.SBlock, 3, 225},
		{4, 2, api.SHalf, 3, 225},
		{5, 2, api.SHalf, 3, 226},
		{100, 4, api.SBlock, 0, 688},
		{100, 4, api.SBlock, 1, 488},
		{101, 4, api.SBlock, 3, 339},
		{1, 4, api.SHalf, 3, 289},
		{100, 2, api.SNone, 0, 808},
		{100, 4, api.SNone, 0, 2032},
		{mostAhead, 2, api.SBlock, 0, 1<<41 + 224},
		{mostAhead, 4, api.SHalf, 0, 1<<42 + 288},
		{mostAhead, 4, api.SBlock, 3, 1<<39 + 288},
		{mostAhead, 4, api.SNone, 0, 1<<42 + 1632},
		{mostAhead - 1, 2, api.SBlock, 3, 1<<38 + 224},
	} {
		if lost := step(t, c.e, c.kernel, c.scale, c.s); lost != c.want {
			t.Errorf("Step of %d, kernel %d, scale %d, shift %d is %d, not %d", c.e, c.kernel, c.scale, c.s, lost, c.want)
		}
	}
}

// P14.1: where nothing is shifted, what is lost hangs on no shift.
func TestStepOfNoneShifts(t *testing.T) {
	for _, s := range shifts {
		if lost := step(t, 100, 2, api.SNone, s); lost != 808 {
			t.Errorf("Step of kernel 2, shift %d, is %d", s, lost)
		}
		if lost := step(t, 101, 4, api.SNone, s); lost != 2036 {
			t.Errorf("Step of kernel 4, shift %d, is %d", s, lost)
		}
	}
}

// P14.1, R5: steps of losses up to the greatest, by the words.
func TestStepByWords(t *testing.T) {
	eachStep(func(e, kernel, scale, s int) {
		if lost, want := step(t, e, kernel, scale, s), behindByWords(e, kernel, scale, s); lost != want {
			t.Errorf("Step of %d, kernel %d, scale %d, shift %d is %d, not %d", e, kernel, scale, s, lost, want)
		}
	})
}

// eachStep goes through the losses ahead, with all kernels, scales and shifts that may be.
func eachStep(do func(e, kernel, scale, s int)) {
	for _, e := range losses() {
		for _, kernel := range kernels {
			for _, scale := range scales {
				for _, s := range shifts {
					do(e, kernel, scale, s)
				}
			}
		}
	}
}

// P14.1, R2: what a step may not be handed, at the edges and far beyond them, each alone in all steps.
func TestStepRefuses(t *testing.T) {
	for _, kernel := range kernels {
		for _, scale := range scales {
			for _, s := range shifts {
				for _, e := range []int{-1, -2, mostAhead + 1, 1 << 41, 1<<62 + 1, math.MinInt, math.MinInt + 91, math.MaxInt} {
					stepRefused(t, e, kernel, scale, s)
				}
				for _, e := range []int{0, 91, mostAhead} {
					for _, wrong := range append([]int{-4, -2, -1, 0, 1, 3, 5, 6, 8, 16}, extremes...) {
						stepRefused(t, e, wrong, scale, s)
					}
					for _, wrong := range append([]int{-2, -1, 3, 4}, extremes...) {
						stepRefused(t, e, kernel, wrong, s)
					}
					for _, wrong := range append([]int{-2, -1, 4, 5}, extremes...) {
						stepRefused(t, e, kernel, scale, wrong)
					}
				}
			}
		}
	}
	for _, x := range extremes {
		stepRefused(t, x, x, x, x)
	}
}

// P14.2: some plans' losses by hand, the document's among them.
func TestOfByHand(t *testing.T) {
	for _, c := range []struct {
		p      api.Plan
		shifts []int
		want   int
	}{
		{api.Plan{Log: 2}, []int{1, 1}, 539},
		{api.Plan{Log: 6}, []int{1, 1, 1, 1, 1, 1}, 1435},
		{api.Plan{Log: 2, Kernel: api.KFour}, []int{2}, 379},
		{api.Plan{Log: 3, Kernel: api.KFour}, []int{1, 2}, 603},
		{api.Plan{Log: 6, Kernel: api.KFour}, []int{2, 2, 2}, 955},
		{api.Plan{Log: 2, Kernel: api.KSplit}, nil, 539},
		{api.Plan{Log: 3, Kernel: api.KSplit}, []int{}, 763},
		{api.Plan{Log: 6, Kernel: api.KSplit}, nil, 1435},
		{api.Plan{Log: 2, Scale: api.SNone}, []int{0, 0}, 1824},
		{api.Plan{Log: 6, Scale: api.SNone}, []int{0, 0, 0, 0, 0, 0}, 38304},
		{api.Plan{Log: 2, Kernel: api.KFour, Scale: api.SNone}, []int{0}, 1632},
		{api.Plan{Log: 3, Kernel: api.KFour, Scale: api.SNone}, []int{0, 0}, 4064},
		{api.Plan{Log: 2, Scale: api.SBlock}, []int{0, 0}, 672},
		{api.Plan{Log: 2, Scale: api.SBlock}, []int{2, 1}, 448},
		{api.Plan{Log: 3, Scale: api.SBlock}, []int{1, 0, 2}, 560},
		{api.Plan{Log: 3, Kernel: api.KFour, Scale: api.SBlock}, []int{2, 3}, 400},
		{api.Plan{Log: 4, Kernel: api.KFour, Scale: api.SBlock}, []int{3, 1}, 864},
		{api.Plan{Log: 4, Kernel: api.KFour, Scale: api.SBlock, Format: api.F31, Mode: api.MEven, Inverse: true}, []int{0, 3}, 432},
	} {
		if lost := of(t, c.p, c.shifts); lost != c.want {
			t.Errorf("Of %v with %v is %d, not %d", c.p, c.shifts, lost, c.want)
		}
	}
}

// P14.1: the document's example: what is lost at first, and behind each pass.
func TestStepsOfTheExample(t *testing.T) {
	p := api.Plan{Log: 2, Kernel: api.KTwo, Scale: api.SHalf}
	lost := []int{start(t, p)}
	for range 2 {
		lost = append(lost, step(t, lost[len(lost)-1], 2, api.SHalf, 1))
	}
	if !slices.Equal(lost, []int{91, 315, 539}) || of(t, p, fixed(t, p)) != lost[2] {
		t.Errorf("losses are %v, in all %d", lost, of(t, p, fixed(t, p)))
	}
}

// P14.2: the losses of all plans, with all shifts that they may have, by the words.
func TestOfByWords(t *testing.T) {
	for _, p := range plan.Every() {
		for _, shifts := range shiftsOf(t, p) {
			if lost, want := of(t, p, shifts), lossByWords(t, p, shifts); lost != want {
				t.Errorf("Of %v with %v is %d, not %d", p, shifts, lost, want)
			}
		}
	}
}

// P14.2: a loss is Start's, and then Step's behind each pass; but of kernel split, which has no passes.
func TestOfIsStepByStep(t *testing.T) {
	for _, p := range plan.Every() {
		if p.Kernel == api.KSplit {
			continue
		}
		for _, shifts := range shiftsOf(t, p) {
			lost := start(t, p)
			for i, pass := range passes(t, p) {
				lost = step(t, lost, pass.Kernel, p.Scale, shifts[i])
			}
			if all := of(t, p, shifts); all != lost {
				t.Errorf("Of %v with %v is %d, not %d", p, shifts, all, lost)
			}
		}
	}
}

// P14.2: shifts are as many as passes: one less or more are none of the plan's, nor are many more.
func TestOfRefusesOtherCounts(t *testing.T) {
	for _, p := range plan.Every() {
		for _, shifts := range shiftsOf(t, p) {
			for _, more := range []int{0, 1, 2, 3} {
				ofRefused(t, p, append(slices.Clone(shifts), more), api.ErrArg)
			}
			if len(shifts) != 0 {
				ofRefused(t, p, shifts[1:], api.ErrArg)
				ofRefused(t, p, shifts[:len(shifts)-1], api.ErrArg)
				ofRefused(t, p, nil, api.ErrArg)
				ofRefused(t, p, []int{}, api.ErrArg)
			}
		}
		ofRefused(t, p, make([]int, 1<<16), api.ErrArg)
	}
}

// P14.2: each shift by itself may be none of the plan's, at the edges and far beyond them.
func TestOfRefusesOtherShifts(t *testing.T) {
	for _, p := range plan.Every() {
		for i, pass := range passes(t, p) {
			may := mayShiftBy(p.Scale, pass.Kernel)
			for _, s := range append([]int{-3, -2, -1, 0, 1, 2, 3, 4, 5}, extremes...) {
				wrong := slices.Clone(fixed(t, p))
				wrong[i] = s
				if !slices.Contains(may, s) {
					ofRefused(t, p, wrong, api.ErrArg)
				} else if _, e := budget.Of(p, wrong); e != api.OK {
					t.Errorf("Of %v with %v: error %d", p, wrong, e)
				}
			}
		}
	}
}

// P14.2: the shifts of all kinds of plans by hand; they hang on Kernel, Scale and Log alone.
func TestFixedByHand(t *testing.T) {
	type shape struct{ kernel, scale, log int }
	want := map[shape][]int{
		{api.KTwo, api.SHalf, 2}: {1, 1}, {api.KTwo, api.SBlock, 2}: {2, 2}, {api.KTwo, api.SNone, 2}: {0, 0},
		{api.KTwo, api.SHalf, 3}: {1, 1, 1}, {api.KTwo, api.SBlock, 3}: {2, 2, 2}, {api.KTwo, api.SNone, 3}: {0, 0, 0},
		{api.KTwo, api.SHalf, 4}: {1, 1, 1, 1}, {api.KTwo, api.SBlock, 4}: {2, 2, 2, 2}, {api.KTwo, api.SNone, 4}: {0, 0, 0, 0},
		{api.KTwo, api.SHalf, 5}: {1, 1, 1, 1, 1}, {api.KTwo, api.SBlock, 5}: {2, 2, 2, 2, 2}, {api.KTwo, api.SNone, 5}: {0, 0, 0, 0, 0},
		{api.KTwo, api.SHalf, 6}: {1, 1, 1, 1, 1, 1}, {api.KTwo, api.SBlock, 6}: {2, 2, 2, 2, 2, 2}, {api.KTwo, api.SNone, 6}: {0, 0, 0, 0, 0, 0},

		{api.KFour, api.SHalf, 2}: {2}, {api.KFour, api.SBlock, 2}: {3}, {api.KFour, api.SNone, 2}: {0},
		{api.KFour, api.SHalf, 3}: {1, 2}, {api.KFour, api.SBlock, 3}: {2, 3}, {api.KFour, api.SNone, 3}: {0, 0},
		{api.KFour, api.SHalf, 4}: {2, 2}, {api.KFour, api.SBlock, 4}: {3, 3}, {api.KFour, api.SNone, 4}: {0, 0},
		{api.KFour, api.SHalf, 5}: {1, 2, 2}, {api.KFour, api.SBlock, 5}: {2, 3, 3}, {api.KFour, api.SNone, 5}: {0, 0, 0},
		{api.KFour, api.SHalf, 6}: {2, 2, 2}, {api.KFour, api.SBlock, 6}: {3, 3, 3}, {api.KFour, api.SNone, 6}: {0, 0, 0},
	}
	for _, p := range plan.Every() {
		if told := fixed(t, p); !slices.Equal(told, want[shape{p.Kernel, p.Scale, p.Log}]) {
			t.Errorf("Fixed of %v is %v", p, told)
		}
	}
}

// P14.2: what Fixed tells are a plan's shifts, and none of its others is greater in any place.
func TestFixedAreTheGreatest(t *testing.T) {
	for _, p := range plan.Every() {
		greatest := fixed(t, p)
		of(t, p, greatest)
		for _, shifts := range shiftsOf(t, p) {
			for i, s := range shifts {
				if s > greatest[i] {
					t.Errorf("Fixed of %v is %v, but the shifts may be %v", p, greatest, shifts)
				}
			}
		}
	}
}

// P14.3: a plan that halves loses little: not more than 64 times 6 times Log and 4, also if only 6 times Log is multiplied.
func TestHalvingLosesLittle(t *testing.T) {
	for _, p := range plan.Every() {
		if p.Scale != api.SHalf {
			continue
		}
		if lost := of(t, p, fixed(t, p)); lost > 64*6*p.Log+4 {
			t.Errorf("%v loses %d", p, lost)
		}
	}
}

// P14.3: with a greater shift not more is lost, by a pass.
func TestGreaterShiftsLoseNotMore(t *testing.T) {
	eachStep(func(e, kernel, scale, s int) {
		if s == 0 {
			return
		}
		if with, without := step(t, e, kernel, scale, s), step(t, e, kernel, scale, s-1); with > without {
			t.Errorf("with %d lost, kernel %d, scale %d: %d is lost, shifted by %d, by one less %d", e, kernel, scale, with, s, without)
		}
	})
}

// P14.3: with more lost ahead not less is lost, by a pass.
func TestMoreAheadLosesNotLess(t *testing.T) {
	ahead := losses()
	for _, kernel := range kernels {
		for _, scale := range scales {
			for _, s := range shifts {
				for i := 1; i < len(ahead); i++ {
					less, more := ahead[i-1], ahead[i]
					if step(t, less, kernel, scale, s) > step(t, more, kernel, scale, s) {
						t.Errorf("kernel %d, scale %d, shifted by %d: with %d lost ahead more is lost than with %d", kernel, scale, s, less, more)
					}
				}
			}
		}
	}
}

// P14.3, of all passes of a plan together: a greater shift of any of them loses not more.
func TestGreaterShiftsOfPlansLoseNotMore(t *testing.T) {
	for _, p := range plan.Every() {
		for _, shifts := range shiftsOf(t, p) {
			lost := of(t, p, shifts)
			for i := range shifts {
				greater := slices.Clone(shifts)
				greater[i]++
				if less, e := budget.Of(p, greater); e == api.OK && less > lost {
					t.Errorf("%v loses %d with %v, and %d with %v", p, lost, shifts, less, greater)
				}
			}
		}
	}
}

// R1, R4, and the language's rule 7: a call tells the same again, whatever was done with what it told; shifts handed in stay as they are.
func TestNothingIsKept(t *testing.T) {
	for _, p := range plan.Every() {
		first := fixed(t, p)
		was := slices.Clone(first)
		lost := of(t, p, first)
		if !slices.Equal(first, was) {
			t.Errorf("Of %v makes %v of the shifts %v", p, first, was)
		}
		clear(first[:cap(first)])
		stepRefused(t, -1, 2, p.Scale, 0)
		if again := fixed(t, p); !slices.Equal(again, was) || of(t, p, again) != lost {
			t.Errorf("shifts of %v are first %v, then %v", p, was, again)
		}
	}
}
