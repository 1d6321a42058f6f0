package near_test

import (
	"math"
	"math/big"
	"math/cmplx"
	"slices"
	"testing"

	"headroom/api"
	"headroom/budget"
	"headroom/dft"
	"headroom/fft"
	"headroom/near"
	"headroom/plan"
)

// extremes are numbers that are far from all that may be, or the same as some of these in their last 8, 16 or 32 bits.
var extremes = []int{
	math.MinInt, math.MinInt + 1, math.MinInt + 2, math.MinInt + 20, -1 << 62, -1<<32 - 1, -1 << 32, -1<<32 + 1,
	1<<32 - 1, 1 << 32, 1<<32 + 1, 1<<32 + 2, 1<<32 + 3, 1 << 62, math.MaxInt - 30, math.MaxInt - 1, math.MaxInt,
}

// wrongPlans are plans that may not be, each by one field, and such as lie far from all that may.
func wrongPlans() []api.Plan {
	all := []api.Plan{
		{}, {Log: 1}, {Log: 7}, {Log: -1}, {Log: 2, Format: -1}, {Log: 2, Format: 2}, {Log: 2, Kernel: -1}, {Log: 2, Kernel: 3},
		{Log: 2, Scale: -1}, {Log: 2, Scale: 3}, {Log: 2, Mode: -1}, {Log: 2, Mode: 3}, {Log: 6, Mode: 3, Inverse: true},
		{Log: 5, Kernel: api.KSplit, Scale: api.SBlock}, {Log: 2, Kernel: api.KSplit, Scale: api.SNone, Inverse: true},
	}
	for _, x := range extremes {
		all = append(all,
			api.Plan{Log: x}, api.Plan{Log: 2, Format: x}, api.Plan{Log: 2, Kernel: x}, api.Plan{Log: 2, Scale: x}, api.Plan{Log: 2, Mode: x},
			api.Plan{Format: x, Log: x, Kernel: x, Scale: x, Mode: x, Inverse: true})
	}
	return all
}

// spread are n numbers of which no part is greater than most, either way: many kinds of them, the same in each run.
func spread(n, seed, most int) []api.Cx {
	state := uint64(seed)*2654435761 + 12345
	part := func() int {
		state = state*6364136223846793005 + 1442695040888963407
		return int(state>>20)%(2*most+1) - most
	}
	x := make([]api.Cx, n)
	for k := range x {
		x[k].Re = part()
		x[k].Im = part()
	}
	return x
}

// edges are n numbers whose parts are as great as may be, or as little, by a seed's bits.
func edges(n, seed, least, greatest int) []api.Cx {
	side := func(of int) int {
		if of < 0 {
			return least
		}
		return greatest
	}
	x := spread(n, seed, 1<<20)
	for k, a := range x {
		x[k] = api.Cx{Re: side(a.Re), Im: side(a.Im)}
	}
	return x
}

// alone are n numbers of which only one is not 0.
func alone(n, place int, a api.Cx) []api.Cx {
	x := make([]api.Cx, n)
	x[place%n] = a
	return x
}

// root is e to i times the angle of k of n, the way of the transform.
func root(k, n int, inverse bool) complex128 {
	angle := -2 * math.Pi * float64(k%n) / float64(n)
	if inverse {
		angle = -angle
	}
	return cmplx.Exp(complex(0, angle))
}

// towards are n mantissas as far from 0 as may be, whose signs put all that is summed in a bin's Re on one side.
func towards(p api.Plan, bin int) []api.Cx {
	n, one := 1<<p.Log, oneOf(p)
	signed := func(of float64) int {
		if of < 0 {
			return -one
		}
		return one - 1
	}
	x := make([]api.Cx, n)
	for j := range x {
		w := root(bin*j, n, p.Inverse)
		x[j] = api.Cx{Re: signed(real(w)), Im: signed(-imag(w))}
	}
	return x
}

// samples are numbers of each kind that a plan may be handed: great and small, alone, at the edges, and next to where rooms change.
func samples(p api.Plan) [][]api.Cx {
	n, one := 1<<p.Log, oneOf(p)
	all := [][]api.Cx{
		make([]api.Cx, n), alone(n, 0, api.Cx{Re: 1}), alone(n, 3, api.Cx{Im: -1}), alone(n, n-1, api.Cx{Re: 5, Im: -one}),
		edges(n, p.Mode, -one, one-1), slices.Repeat([]api.Cx{{Re: -one, Im: -one}}, n), slices.Repeat([]api.Cx{{Re: one - 1, Im: one - 1}}, n),
		towards(p, 1), towards(p, n-1),
	}
	for _, m := range []int{1, 9, one / 512, one / 8, one / 4, one / 2, one - 1} {
		all = append(all, spread(n, m+n, m), edges(n, n, -m, m))
	}
	return append(all, edges(n, 5, -one/2-1, one/2), edges(n, 6, -one/4, one/4+1), edges(n, 7, 1-one/4, one/4-1))
}

// eachSample goes through samples of all plans.
func eachSample(do func(x []api.Cx, p api.Plan)) {
	for _, p := range plan.Every() {
		for _, x := range samples(p) {
			do(x, p)
		}
	}
}

func upOf(t *testing.T, x []api.Cx, p api.Plan) int {
	t.Helper()
	u, e := near.Up(x, p)
	if e != api.OK {
		t.Fatalf("Up of %v, plan %v: error %d", x, p, e)
	}
	return u
}

func farOf(t *testing.T, x []api.Cx, p api.Plan, b api.Block) int {
	t.Helper()
	far, e := near.Far(x, p, b)
	if e != api.OK {
		t.Fatalf("Far of %v, plan %v, block %v: error %d", x, p, b, e)
	}
	return far
}

func boundOf(t *testing.T, x []api.Cx, p api.Plan, b api.Block) int {
	t.Helper()
	bound, e := near.Bound(x, p, b)
	if e != api.OK {
		t.Fatalf("Bound of %v, plan %v, block %v: error %d", x, p, b, e)
	}
	return bound
}

func isWithin(t *testing.T, x []api.Cx, p api.Plan, b api.Block) bool {
	t.Helper()
	is, e := near.Within(x, p, b)
	if e != api.OK {
		t.Fatalf("Within of %v, plan %v, block %v: error %d", x, p, b, e)
	}
	return is
}

func run(t *testing.T, x []api.Cx, p api.Plan) api.Block {
	t.Helper()
	b, e := fft.Run(x, p)
	if e != api.OK {
		t.Fatalf("Run of %v, plan %v: error %d", x, p, e)
	}
	return b
}

// shiftsOf are shifts that a plan's passes may have.
func shiftsOf(t *testing.T, p api.Plan) []int {
	t.Helper()
	shifts, e := budget.Fixed(p)
	if e != api.OK {
		t.Fatalf("Fixed of %v: error %d", p, e)
	}
	return shifts
}

// upRefused holds the error that Up tells against what it is to be; beside it is nothing.
func upRefused(t *testing.T, x []api.Cx, p api.Plan, want api.Errno) {
	t.Helper()
	if u, e := near.Up(x, p); u != 0 || e != want {
		t.Errorf("Up of %d numbers, plan %v, is %d, error %d, not %d", len(x), p, u, e, want)
	}
}

// refused does so of the calls that look at a block.
func refused(t *testing.T, x []api.Cx, p api.Plan, b api.Block, want api.Errno) {
	t.Helper()
	far, e := near.Far(x, p, b)
	bound, e2 := near.Bound(x, p, b)
	is, e3 := near.Within(x, p, b)
	if far != 0 || bound != 0 || is || e != want || e2 != want || e3 != want {
		t.Errorf("of %d numbers, plan %v, and the block %v is told %d, %d, %t, with the errors %d, %d, %d, not %d", len(x), p, b, far, bound, is, e, e2, e3, want)
	}
}

// counted are 1, 2, 3, 4, and eighths 8, 16, 24, 32.
var (
	counted = []api.Cx{{Re: 1}, {Re: 2}, {Re: 3}, {Re: 4}}
	eighths = []api.Cx{{Re: 8}, {Re: 16}, {Re: 24}, {Re: 32}}
)

// P17.1: how far numbers are put up, by hand: only if they are shifted as needed, to a half of what the format has at most.
func TestUpByHand(t *testing.T) {
	for _, c := range []struct{ part, format, want int }{
		{0, api.F15, 0}, {1, api.F15, 14}, {-1, api.F15, 14}, {3, api.F15, 12}, {4, api.F15, 12}, {1000, api.F15, 4}, {-1024, api.F15, 4}, {1025, api.F15, 3},
		{8192, api.F15, 1}, {8193, api.F15, 0}, {16384, api.F15, 0}, {-16384, api.F15, 0}, {16385, api.F15, 0}, {32767, api.F15, 0}, {-32768, api.F15, 0},
		{0, api.F31, 0}, {1, api.F31, 30}, {-32768, api.F31, 15}, {1 << 29, api.F31, 1}, {1<<29 + 1, api.F31, 0}, {1<<31 - 1, api.F31, 0}, {-1 << 31, api.F31, 0},
	} {
		for place, a := range []api.Cx{{Re: c.part}, {Im: c.part}, {Re: c.part, Im: c.part / 2}, {Re: c.part / 3, Im: c.part}} {
			x := alone(8, place*2+1, a)
			for _, kernel := range []int{api.KTwo, api.KFour} {
				p := api.Plan{Format: c.format, Log: 3, Kernel: kernel, Scale: api.SBlock}
				if u := upOf(t, x, p); u != c.want {
					t.Errorf("Up of %v alone, plan %v, is %d, not %d", a, p, u, c.want)
				}
				for _, scale := range []int{api.SHalf, api.SNone} {
					p.Scale = scale
					if u := upOf(t, x, p); u != 0 {
						t.Errorf("Up of %v alone, plan %v, is %d", a, p, u)
					}
				}
			}
			if u := upOf(t, x, api.Plan{Format: c.format, Log: 3, Kernel: api.KSplit}); u != 0 {
				t.Errorf("Up of %v alone, by kernel split, is %d", a, u)
			}
		}
	}
}

// P17.1: so is it of all plans, by the words; and by fft, which tells it as an exponent.
func TestUpByWords(t *testing.T) {
	eachSample(func(x []api.Cx, p api.Plan) {
		u := upOf(t, x, p)
		if want := upByWords(x, p); u != want {
			t.Fatalf("Up of %v, plan %v, is %d, not %d", x, p, u, want)
		}
		if b, e := fft.Ready(x, p); e != api.OK || p.Scale == api.SBlock && b.Exp != -u {
			t.Fatalf("Up of %v, plan %v, is %d, and what is ready has the exponent %d, error %d", x, p, u, b.Exp, e)
		}
	})
}

// P17.2: blocks by hand, at them and off them; the first one is the chapter's example.
func TestBlocksByHand(t *testing.T) {
	four := func(re0, re1, im1, re2, re3, im3 int) []api.Cx {
		return []api.Cx{{Re: re0}, {Re: re1, Im: im1}, {Re: re2}, {Re: re3, Im: im3}}
	}
	none, block := api.Plan{Log: 2, Scale: api.SNone}, api.Plan{Log: 2, Scale: api.SBlock}
	back := api.Plan{Log: 2, Scale: api.SNone, Inverse: true}
	for _, c := range []struct {
		x          []api.Cx
		p          api.Plan
		b          api.Block
		far, bound int
		within     bool
	}{
		{counted, none, api.Block{X: four(10, -2, 2, -2, -2, -2), Shifts: []int{0, 0}}, 0, 7298, true},
		{counted, none, api.Block{X: four(10, -2, 2, -2, -2, -2), Exp: 1, Shifts: []int{0, 0}}, 2560, 14594, true},
		{counted, none, api.Block{X: four(11, -2, 2, -2, -2, -2), Shifts: []int{0, 0}}, 256, 7298, true},
		{counted, none, api.Block{X: four(10, -2, 5, -2, -2, -2), Shifts: []int{0, 0}}, 768, 7298, true},
		{counted, none, api.Block{X: four(9, -2, 2, -4, -2, -2), Shifts: []int{0, 0}}, 512, 7298, true},
		{counted, none, api.Block{X: four(10, -2, 2, -2, -2, 26), Shifts: []int{0, 0}}, 7168, 7298, true},
		{counted, none, api.Block{X: four(10, -2, 2, -2, -2, 27), Shifts: []int{0, 0}}, 7424, 7298, false},
		// What is inverse has other bins 1 and 3.
		{counted, none, api.Block{X: four(10, -2, -2, -2, -2, 2), Shifts: []int{0, 0}}, 1024, 7298, true},
		{counted, back, api.Block{X: four(10, -2, -2, -2, -2, 2), Shifts: []int{0, 0}}, 0, 7298, true},
		{counted, back, api.Block{X: four(10, -2, 2, -2, -2, -2), Shifts: []int{0, 0}}, 1024, 7298, true},
		{counted, api.Plan{Log: 2, Kernel: api.KFour, Scale: api.SNone}, api.Block{X: four(10, -2, 2, -2, -2, -2), Shifts: []int{0}}, 0, 6530, true},
		// Put up by 12 they are 4096 to 16384, so a block whose exponent is -10 has a power of 2; shifts that are greater lose less.
		{counted, block, api.Block{X: four(10240, -2048, 2048, -2048, -2048, -2048), Exp: -10, Shifts: []int{1, 1}}, 0, 7170, true},
		{counted, block, api.Block{X: four(10240, -2048, 2048, -2048, -2048, -2048), Exp: -10, Shifts: []int{2, 2}}, 0, 5378, true},
		{counted, block, api.Block{X: four(10240, -2048, 2048, -2048, -2048, -2048), Exp: -10, Shifts: []int{0, 0}}, 0, 10754, true},
		{counted, block, api.Block{X: four(10240, -2048, 2048, -2047, -2048, -2048), Exp: -10, Shifts: []int{1, 1}}, 1024, 7170, true},
		{counted, block, api.Block{X: four(10248, -2048, 2048, -2048, -2048, -2048), Exp: -10, Shifts: []int{1, 1}}, 8192, 7170, false},
		{counted, block, api.Block{X: four(20480, -4096, 4096, -4096, -4096, -4096), Exp: -11, Shifts: []int{1, 1}}, 0, 3586, true},
		{counted, api.Plan{Format: api.F31, Log: 2, Scale: api.SBlock}, api.Block{X: four(10<<26, -2<<26, 2<<26, -2<<26, -2<<26, -2<<26), Exp: -26, Shifts: []int{1, 1}}, 0, 7172, true},
		// What halves loses 91, 315, 539; rounded down at first and behind each pass, 10 has become 0.
		{counted, api.Plan{Log: 2}, api.Block{X: four(0, -1, 0, -1, -1, -1), Exp: 3, Shifts: []int{1, 1}}, 2560, 17250, true},
		{counted, api.Plan{Log: 2, Kernel: api.KFour}, api.Block{X: four(2, 0, 0, 0, 0, 0), Exp: 3, Shifts: []int{2}}, 1536, 12130, true},
		{eighths, api.Plan{Log: 2, Kernel: api.KSplit}, api.Block{X: four(10, -2, 2, -2, -2, -2), Exp: 3}, 0, 17250, true},
		{eighths, api.Plan{Log: 2, Kernel: api.KSplit}, api.Block{X: four(10, 7, 2, -2, -2, -2), Exp: 3, Shifts: []int{}}, 18432, 17250, false},
		// What was clamped is far, whether the block tells it or not.
		{slices.Repeat([]api.Cx{{Re: -32768}}, 4), none, api.Block{X: four(-32768, 0, 0, 0, 0, 0), Sat: true, Shifts: []int{0, 0}}, 25165824, 7298, false},
		{slices.Repeat([]api.Cx{{Re: -32768}}, 4), none, api.Block{X: four(-32768, 0, 0, 0, 0, 0), Shifts: []int{0, 0}}, 25165824, 7298, false},
		{slices.Repeat([]api.Cx{{Re: -32768}}, 4), none, api.Block{X: four(-32768, 0, 0, 0, 0, 0), Exp: 2, Sat: true, Shifts: []int{0, 0}}, 0, 29186, true},
	} {
		if far, bound, is := farOf(t, c.x, c.p, c.b), boundOf(t, c.x, c.p, c.b), isWithin(t, c.x, c.p, c.b); far != c.far || bound != c.bound || is != c.within {
			t.Errorf("block %v of %v, plan %v, is %d far, may be %d, %t, not %d, %d, %t", c.b, c.x, c.p, far, bound, is, c.far, c.bound, c.within)
		}
	}
}

// P17.2, R5: the greatest that there is, by hand: 2^59 and what a bin has, exactly.
func TestFarthestByHand(t *testing.T) {
	const one = 1 << 31
	most := slices.Repeat([]api.Cx{{Re: one - 1, Im: -one}}, 64)
	least := slices.Repeat([]api.Cx{{Re: -one, Im: one - 1}}, 64)
	half := api.Plan{Format: api.F31, Log: 6}
	if far := farOf(t, most, half, api.Block{X: least, Exp: 20, Shifts: []int{1, 1, 1, 1, 1, 1}}); far != 1<<59+1<<45-1<<14 {
		t.Errorf("the least mantissa is %d away from the greatest one", far)
	}
	// Bin 0's Im is -2^45, and the block's 2^59, but for 2^28.
	if far := farOf(t, most, half, api.Block{X: alone(64, 0, api.Cx{Im: one - 1}), Exp: 20, Shifts: []int{1, 1, 1, 1, 1, 1}}); far != 1<<59+1<<45-1<<28 {
		t.Errorf("the greatest mantissa is %d away from the least one", far)
	}
	for _, c := range []struct {
		x      []api.Cx
		p      api.Plan
		exp    int
		shifts []int
		want   int
	}{
		// 91, and 224 six times; nothing shifted, 608 times 63; of kernel 4 1632 times 21.
		{most, half, 20, []int{1, 1, 1, 1, 1, 1}, 1435<<22 + 66},
		{most, api.Plan{Format: api.F31, Log: 6, Scale: api.SNone}, 20, make([]int, 6), 38304<<22 + 66},
		{most, api.Plan{Format: api.F31, Log: 6, Kernel: api.KFour, Scale: api.SNone}, 20, make([]int, 3), 34272<<22 + 66},
		// With no shifts 224 times 63 is lost; 1, put up, has a slack of 34, and a power of 20 is an exponent of -10 then.
		{alone(64, 5, api.Cx{Im: 1}), api.Plan{Format: api.F31, Log: 6, Scale: api.SBlock}, -10, make([]int, 6), 14112<<22 + 34},
		{alone(64, 5, api.Cx{Im: 1}), api.Plan{Format: api.F31, Log: 6, Scale: api.SNone}, 0, make([]int, 6), 38304<<2 + 2},
		{most, api.Plan{Format: api.F31, Log: 6, Kernel: api.KSplit}, 20, nil, 1435<<22 + 66},
	} {
		if bound := boundOf(t, c.x, c.p, api.Block{X: least, Exp: c.exp, Shifts: c.shifts}); bound != c.want {
			t.Errorf("Bound of plan %v, exponent %d, is %d, not %d", c.p, c.exp, bound, c.want)
		}
	}
}

// P17.2: each part of each number is looked at, on both sides of its bin.
func TestEachPartCounts(t *testing.T) {
	t.Parallel()
	for _, p := range plan.Every() {
		n, shifts := 1<<p.Log, shiftsOf(t, p)
		// The three modes take turns at the numbers.
		for k := p.Mode; k < n; k += 3 {
			for _, part := range []int{3, -4} {
				for _, a := range []api.Cx{{Re: part}, {Im: part}, {Re: part, Im: 1}, {Re: -2, Im: part}} {
					b := api.Block{X: alone(n, k, a), Exp: k % 21, Shifts: shifts}
					if far, want := farOf(t, make([]api.Cx, n), p, b), max(part, -part)<<(8+k%21); far != want {
						t.Fatalf("number %d, %v, is %d away from 0, not %d", k, a, far, want)
					}
				}
			}
		}
	}
}

// blocks are such as may be of numbers and a plan: what the plan makes, and others, near to it and far, of all powers.
func blocks(t *testing.T, x []api.Cx, p api.Plan) []api.Block {
	t.Helper()
	n, one, up := len(x), oneOf(p), upByWords(x, p)
	b, most := run(t, x, p), shiftsOf(t, p)
	all := []api.Block{b, {X: b.X, Exp: b.Exp, Sat: !b.Sat, Shifts: b.Shifts}}
	for i, y := range [][]api.Cx{b.X, spread(n, n, one-1), spread(n, n, 9), edges(n, n, -one, one-1), make([]api.Cx, n)} {
		for _, power := range []int{0, 1 + 3*i, mostPower} {
			all = append(all, api.Block{X: y, Exp: power - up, Shifts: most})
		}
	}
	return append(all, api.Block{X: b.X, Exp: b.Exp, Shifts: most}, api.Block{X: spread(n, 3, one/2), Exp: 7 - up, Sat: true, Shifts: b.Shifts})
}

// P17.2: all three of all plans, against the words.
func TestBlocksByWords(t *testing.T) {
	t.Parallel()
	for _, p := range plan.Every() {
		for i, x := range samples(p) {
			all := blocks(t, x, p)
			// The modes take turns at what the plan makes, and all blocks at the samples; each mode begins with another one.
			if i%3 == p.Mode {
				holdToWords(t, x, p, all[0])
			}
			holdToWords(t, x, p, all[(i+6*p.Mode)%len(all)])
		}
	}
}

// rows are all rows of numbers from 0 on, each up to the greatest of its place.
func rows(most []int) [][]int {
	all := [][]int{{}}
	for _, m := range most {
		var longer [][]int
		for _, row := range all {
			for s := 0; s <= m; s++ {
				longer = append(longer, slices.Concat(row, []int{s}))
			}
		}
		all = longer
	}
	return all
}

// P17.2: whatever the shifts are that a plan may have, they count for how far a block may be, and not for how far it is.
func TestShiftsByWords(t *testing.T) {
	t.Parallel()
	for _, p := range plan.Every() {
		if p.Scale != api.SBlock || p.Mode != api.MUp {
			continue
		}
		x := spread(1<<p.Log, 4, 1000)
		b := run(t, x, p)
		far := farOf(t, x, p, b)
		for i, shifts := range rows(shiftsOf(t, p)) {
			other := api.Block{X: b.X, Exp: b.Exp, Shifts: shifts}
			if bound := boundOf(t, x, p, other); boundByWords(t, x, p, other).Cmp(big.NewInt(int64(bound))) != 0 {
				t.Fatalf("Bound of %v, plan %v, block %v, is %d", x, p, other, bound)
			}
			if i%9 == 0 && farOf(t, x, p, other) != far {
				t.Fatalf("Far of %v, plan %v, hangs on the shifts %v", x, p, shifts)
			}
		}
	}
}

// nearest is a block of power 0 whose numbers are the mantissas next to the bins of numbers.
func nearest(t *testing.T, x []api.Cx, p api.Plan) (api.Block, []api.Cx) {
	t.Helper()
	bins, e := dft.All(putUp(x, p), p.Inverse)
	if e != api.OK {
		t.Fatalf("All of %v: error %d", x, e)
	}
	y := make([]api.Cx, len(x))
	for k, z := range bins {
		y[k] = api.Cx{Re: (z.Re + 128) >> 8, Im: (z.Im + 128) >> 8}
	}
	return api.Block{X: y, Exp: -upByWords(x, p), Shifts: shiftsOf(t, p)}, bins
}

// atBound finds numbers of a plan, and a block with one part that is so many 256ths farther than it may be, and no part farther.
func atBound(t *testing.T, p api.Plan, over int) ([]api.Cx, api.Block) {
	t.Helper()
	n := 1 << p.Log
	for seed := range 1000 {
		x := spread(n, seed, oneOf(p)/(4*n))
		// The greatest part of all that are tried is the same, so that they are put up alike, and not so far that a bin is no mantissa.
		x[0].Re = oneOf(p) / (4 * n)
		if p.Scale == api.SBlock {
			x[0].Re = 5 * oneOf(p) / 16
			clear(x[2:])
		}
		b, bins := nearest(t, x, p)
		bound := boundOf(t, x, p, b)
		for k, z := range bins {
			for _, at := range []int{bound + over, -bound - over} {
				if (z.Re+at)%256 == 0 {
					b.X[k].Re = (z.Re + at) / 256
					return x, b
				}
				if (z.Im+at)%256 == 0 {
					b.X[k].Im = (z.Im + at) / 256
					return x, b
				}
			}
		}
	}
	t.Fatalf("of plan %v no block is found that is %d farther than it may be", p, over)
	return nil, api.Block{}
}

// P17.2: a block that is as far as it may be is not farther; one that is by a 256th is.
func TestWithinAtItsEdge(t *testing.T) {
	t.Parallel()
	for _, p := range plan.Every() {
		// Of 4 numbers all bins are whole, so no block is just as far as it may be.
		if p.Log == 2 {
			continue
		}
		for over := -1; over <= 1; over++ {
			x, b := atBound(t, p, over)
			far, bound := farOf(t, x, p, b), boundOf(t, x, p, b)
			if is := isWithin(t, x, p, b); far != bound+over || is != (over <= 0) {
				t.Errorf("block %v of %v, plan %v, is %d away, and may be %d: %t", b, x, p, far, bound, is)
			}
		}
	}
}

// exactBin is the exact transform's bin, in 256ths.
func exactBin(x []api.Cx, k int, inverse bool) complex128 {
	sum := complex(0, 0)
	for j, a := range x {
		sum += complex(256*float64(a.Re), 256*float64(a.Im)) * root(k*j, len(x), inverse)
	}
	return sum
}

// farFromExact is how far a block is from the exact transform of numbers, in 256ths of what they are put up to.
func farFromExact(x []api.Cx, p api.Plan, b api.Block) float64 {
	far := 0.0
	up := putUp(x, p)
	for k, a := range b.X {
		exact := exactBin(up, k, p.Inverse)
		power := b.Exp + upByWords(x, p) + 8
		far = max(far, math.Abs(math.Ldexp(float64(a.Re), power)-real(exact)), math.Abs(math.Ldexp(float64(a.Im), power)-imag(exact)))
	}
	return far
}

// P17.2: how far a block is from the exact transform, is told to the slack.
func TestFarIsOfTheExactTransform(t *testing.T) {
	t.Parallel()
	eachSample(func(x []api.Cx, p api.Plan) {
		b := run(t, x, p)
		slack, e := dft.Slack(putUp(x, p))
		if e != api.OK {
			t.Fatalf("Slack of %v: error %d", x, e)
		}
		// What is less than 1 may come of the exact bin's own rounding.
		if far, exact := farOf(t, x, p, b), farFromExact(x, p, b); math.Abs(float64(far)-exact) > float64(slack)+1 {
			t.Fatalf("block %v of %v, plan %v, is %d away from the bins, and %v from the exact ones", b, x, p, far, exact)
		}
	})
}

// P17.3, P3: what a plan makes is not farther, if nothing was clamped; neither from the bins, nor from the exact transform.
func TestWhatAPlanMakesIsNear(t *testing.T) {
	t.Parallel()
	made := 0
	eachSample(func(x []api.Cx, p api.Plan) {
		b := run(t, x, p)
		if b.Sat {
			return
		}
		made++
		if !isWithin(t, x, p, b) {
			t.Fatalf("of %v plan %v makes %v: %d away, and it may be %d", x, p, b, farOf(t, x, p, b), boundOf(t, x, p, b))
		}
		if far := farFromExact(x, p, b); far > float64(boundOf(t, x, p, b))+1 {
			t.Fatalf("of %v plan %v makes %v: %v away from the exact transform", x, p, b, far)
		}
	})
	if made < 8000 {
		t.Errorf("only %d blocks were looked at", made)
	}
}

// P17.3: so is what it makes of numbers of which each makes another bin greatest, or is alone.
func TestWhatAPlanMakesOfEachBinIsNear(t *testing.T) {
	t.Parallel()
	for _, p := range plan.Every() {
		// The three modes take turns at the bins.
		for k := p.Mode; k < 1<<p.Log; k += 3 {
			for _, x := range [][]api.Cx{towards(p, k), alone(1<<p.Log, k, api.Cx{Re: oneOf(p)/3 + k, Im: -k}), alone(1<<p.Log, k, api.Cx{Re: 181, Im: -oneOf(p)})} {
				if b := run(t, x, p); !b.Sat && !isWithin(t, x, p, b) {
					t.Fatalf("of %v plan %v makes %v: %d away, and it may be %d", x, p, b, farOf(t, x, p, b), boundOf(t, x, p, b))
				}
			}
		}
	}
}

// R4, and the language's rule 7: what is handed in stays as it was, also behind its ends.
func TestNumbersStay(t *testing.T) {
	for _, p := range plan.Every() {
		n := 1 << p.Log
		numbers, made := spread(n+8, n, 999), spread(n+8, 1, 999)
		shifts := slices.Concat(shiftsOf(t, p), []int{1, 2, 3})
		wasNumbers, wasMade, wasShifts := slices.Clone(numbers), slices.Clone(made), slices.Clone(shifts)
		b := api.Block{X: made[:n], Exp: 0, Shifts: shifts[:len(shifts)-3]}
		upOf(t, numbers[:n], p)
		holdToWords(t, numbers[:n], p, b)
		b.Exp = 21
		refused(t, numbers[:n], p, b, api.ErrRange)
		if !slices.Equal(numbers, wasNumbers) || !slices.Equal(made, wasMade) || !slices.Equal(shifts, wasShifts) {
			t.Fatalf("plan %v changes what it is handed", p)
		}
	}
}

// R1: a call tells the same, whatever was called ahead of it.
func TestNothingIsKept(t *testing.T) {
	for _, p := range plan.Every() {
		x := spread(1<<p.Log, 5, 1<<15-1)
		b := run(t, x, p)
		u, far, bound, is := upOf(t, x, p), farOf(t, x, p, b), boundOf(t, x, p, b), isWithin(t, x, p, b)
		other := p
		other.Inverse = !p.Inverse
		y := spread(1<<p.Log, 6, 9)
		holdToWords(t, y, other, run(t, y, other))
		refused(t, y[1:], p, b, api.ErrSize)
		if upOf(t, x, p) != u || farOf(t, x, p, b) != far || boundOf(t, x, p, b) != bound || isWithin(t, x, p, b) != is {
			t.Errorf("of plan %v is not told the same again", p)
		}
	}
}
