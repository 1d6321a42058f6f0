package real_test

import (
	"math"
	"math/cmplx"
	"slices"
	"testing"

	"headroom/api"
	"headroom/budget"
	"headroom/fft"
	"headroom/plan"
	"headroom/real"
)

// extremes are numbers that are far from all that may be, or the same as some of these in their last 8, 16 or 32 bits.
var extremes = []int{
	math.MinInt, math.MinInt + 1, math.MinInt + 2, math.MinInt + 20, -1 << 62, -1<<32 - 1, -1 << 32, -1<<32 + 1,
	1<<32 - 1, 1 << 32, 1<<32 + 1, 1<<32 + 2, 1<<32 + 3, 1 << 62, math.MaxInt - 30, math.MaxInt - 1, math.MaxInt,
}

// parts are n numbers that are not greater than most, either way: many kinds of them, the same in each run.
func parts(n, seed, most int) []int {
	state := uint64(seed)*2654435761 + 12345
	x := make([]int, n)
	for j := range x {
		state = state*6364136223846793005 + 1442695040888963407
		x[j] = int(state>>20)%(2*most+1) - most
	}
	return x
}

// edges are n numbers that are as great as may be, or as little, by a seed's bits.
func edges(n, seed, least, greatest int) []int {
	x := parts(n, seed, 1<<20)
	for j, part := range x {
		x[j] = greatest
		if part < 0 {
			x[j] = least
		}
	}
	return x
}

// alone are n numbers of which only one is not 0.
func alone(n, place, part int) []int {
	x := make([]int, n)
	x[place%n] = part
	return x
}

// paired are numbers, two by two, as complex ones.
func paired(x []int) []api.Cx { return packedByWords(x) }

// turned is e to -i times the angle of k of n.
func turned(k, n int) complex128 {
	return cmplx.Exp(complex(0, -2*math.Pi*float64(k%n)/float64(n)))
}

// towards are the real numbers of a plan, as far from 0 as may be, whose signs put all that is summed in a bin's part on one side.
func towards(p api.Plan, bin int, part func(complex128) float64) []int {
	n, one := 2<<p.Log, oneOf(p)
	x := make([]int, n)
	for j := range x {
		x[j] = one - 1
		if part(turned(bin*j, n)) < 0 {
			x[j] = -one
		}
	}
	return x
}

// samples are real numbers of each kind that a plan may be handed: great and small, alone, at the edges, and next to where rooms change.
func samples(p api.Plan) [][]int {
	n, one := 2<<p.Log, oneOf(p)
	all := [][]int{
		make([]int, n), alone(n, 0, 1), alone(n, 3, -1), alone(n, n-1, -one), alone(n, 5, one-1),
		slices.Repeat([]int{-one}, n), slices.Repeat([]int{one - 1}, n), slices.Repeat([]int{one - 1, -one}, n/2), edges(n, p.Mode, -one, one-1),
		towards(p, 1, re), towards(p, n/4, im), towards(p, n/2-1, im),
	}
	for _, m := range []int{1, 9, one / 512, one / 8, one / 4, one / 2, one - 1} {
		all = append(all, parts(n, m+n, m), edges(n, n, -m, m))
	}
	return append(all, edges(n, 5, -one/2-1, one/2), edges(n, 6, -one/4, one/4+1), edges(n, 7, 1-one/4, one/4-1))
}

// eachSample goes through samples of all plans that may be here.
func eachSample(do func(x []int, p api.Plan)) {
	for _, p := range plans() {
		for _, x := range samples(p) {
			do(x, p)
		}
	}
}

// blocks are such as a plan may be handed to untangle: of numbers great and small, also of the opposite of the least mantissa, and of exponents at both ends.
func blocks(p api.Plan) []api.Block {
	n, one := 2<<p.Log, oneOf(p)
	all := []api.Block{
		{X: paired(make([]int, n))},
		{X: paired(slices.Repeat([]int{one}, n)), Exp: 100, Shifts: []int{0}},
		{X: paired(slices.Repeat([]int{-one}, n)), Exp: -100, Sat: true},
		{X: paired(edges(n, p.Log, -one, one)), Exp: 99, Sat: true, Shifts: []int{1, 2, 3}},
		{X: paired(edges(n, 7, -one, one-1)), Exp: -99, Shifts: []int{math.MinInt, 5, math.MaxInt}},
		{X: paired(slices.Repeat([]int{one - 1, -one}, n/2)), Exp: -1},
	}
	for i, m := range []int{1, 2, 3, 100, one / 4, one / 2, one - 1, one} {
		all = append(all, api.Block{X: paired(parts(n, m+n, m)), Exp: i*13 - 40, Sat: i%3 == 0, Shifts: parts(i, i, 3)})
	}
	return all
}

func pack(t *testing.T, x []int) []api.Cx {
	t.Helper()
	y, e := real.Pack(x)
	if e != api.OK {
		t.Fatalf("Pack of %v: error %d", x, e)
	}
	return y
}

func bins(t *testing.T, x []int, p api.Plan) api.Block {
	t.Helper()
	b, e := real.Bins(x, p)
	if e != api.OK {
		t.Fatalf("Bins of %v, plan %v: error %d", x, p, e)
	}
	return b
}

func untangle(t *testing.T, b api.Block, p api.Plan) api.Block {
	t.Helper()
	y, e := real.Untangle(b, p)
	if e != api.OK {
		t.Fatalf("Untangle of %v, plan %v: error %d", b, p, e)
	}
	return y
}

func loss(t *testing.T, p api.Plan, shifts []int) int {
	t.Helper()
	lost, e := real.Loss(p, shifts)
	if e != api.OK {
		t.Fatalf("Loss of %v, shifts %v: error %d", p, shifts, e)
	}
	return lost
}

// holdToWords holds a block untangled against the words.
func holdToWords(t *testing.T, b api.Block, p api.Plan) {
	t.Helper()
	if got, want := untangle(t, b, p), untangledByWords(b, p); !same(got, want) {
		t.Fatalf("Untangle of %v, plan %v, is %v, not %v", b, p, got, want)
	}
}

// P18.1: real numbers packed, two by two, whatever they are.
func TestPack(t *testing.T) {
	if y := pack(t, []int{1, 2, 3, 4, 5, 6, 7, 8}); !slices.Equal(y, []api.Cx{{Re: 1, Im: 2}, {Re: 3, Im: 4}, {Re: 5, Im: 6}, {Re: 7, Im: 8}}) {
		t.Errorf("1 to 8 packed are %v", y)
	}
	if y := pack(t, []int{math.MinInt, math.MaxInt, -1, 0, 1 << 32, -1 << 32, 0, 1}); !slices.Equal(y, []api.Cx{{Re: math.MinInt, Im: math.MaxInt}, {Re: -1}, {Re: 1 << 32, Im: -1 << 32}, {Im: 1}}) {
		t.Errorf("numbers of 64 bits packed are %v", y)
	}
	for _, m := range []int{4, 8, 16, 32, 64} {
		for _, most := range []int{1, 1000, 1 << 40} {
			x := parts(2*m, m, most)
			y := pack(t, x)
			if len(y) != m {
				t.Fatalf("%d numbers packed are %d", 2*m, len(y))
			}
			for j, a := range y {
				if a.Re != x[2*j] || a.Im != x[2*j+1] {
					t.Errorf("number %d of %v packed is %v", j, x, a)
				}
			}
		}
	}
}

// P18.1, R2, R3: of no other count than twice a length are numbers packed.
func TestPackErrSize(t *testing.T) {
	for n := range 1100 {
		y, e := real.Pack(make([]int, n))
		may := n == 8 || n == 16 || n == 32 || n == 64 || n == 128
		if may && (e != api.OK || len(y) != n/2) || !may && (e != api.ErrSize || len(y) != 0) {
			t.Errorf("%d numbers packed are %d, error %d", n, len(y), e)
		}
	}
	for _, x := range [][]int{nil, {}, {math.MinInt}, make([]int, 1<<16), make([]int, 1<<16+8)} {
		if y, e := real.Pack(x); len(y) != 0 || e != api.ErrSize {
			t.Errorf("%d numbers packed are %d, error %d", len(x), len(y), e)
		}
	}
}

// P18.1: losses by hand: 256 more than those of the transform.
func TestLossByHand(t *testing.T) {
	for _, c := range []struct {
		p      api.Plan
		shifts []int
		want   int
	}{
		// 91, 315, 539.
		{api.Plan{Log: 2}, []int{1, 1}, 795},
		{api.Plan{Format: api.F31, Log: 2, Mode: api.MEven}, []int{1, 1}, 795},
		{api.Plan{Log: 5}, []int{1, 1, 1, 1, 1}, 1467},
		// 91, 315, 603, 891: the first pass of 32 is of kernel 2.
		{api.Plan{Log: 5, Kernel: api.KFour}, []int{1, 2, 2}, 1147},
		{api.Plan{Log: 2, Kernel: api.KFour}, []int{2}, 635},
		{api.Plan{Log: 5, Kernel: api.KSplit}, nil, 1467},
		{api.Plan{Log: 2, Kernel: api.KSplit}, []int{}, 795},
		// 608, 1824; 1632.
		{api.Plan{Log: 2, Scale: api.SNone}, []int{0, 0}, 2080},
		{api.Plan{Log: 2, Kernel: api.KFour, Scale: api.SNone}, []int{0}, 1888},
		// 224, 448; 224, 672; 224, 336; 288, 432; 224, 400.
		{api.Plan{Log: 2, Scale: api.SBlock}, []int{0, 1}, 704},
		{api.Plan{Log: 2, Scale: api.SBlock}, []int{2, 0}, 928},
		{api.Plan{Log: 2, Scale: api.SBlock}, []int{0, 2}, 592},
		{api.Plan{Log: 4, Kernel: api.KFour, Scale: api.SBlock}, []int{3, 3}, 688},
		{api.Plan{Log: 3, Kernel: api.KFour, Scale: api.SBlock}, []int{0, 3}, 656},
	} {
		if lost := loss(t, c.p, c.shifts); lost != c.want {
			t.Errorf("Loss of %v, shifts %v, is %d, not %d", c.p, c.shifts, lost, c.want)
		}
	}
}

// rows are all rows of numbers from 0 on, each up to the greatest of its place.
func rows(most []int) [][]int {
	all := [][]int{{}}
	for _, m := range most {
		var longer [][]int
		for _, row := range all {
			for s := 0; s <= m; s++ {
				longer = append(longer, slices.Concat(row, []int{s}))
			}
		}
		all = longer
	}
	return all
}

// shiftsOf are shifts that a plan's passes may have.
func shiftsOf(t *testing.T, p api.Plan) []int {
	t.Helper()
	shifts, e := budget.Fixed(p)
	if e != api.OK {
		t.Fatalf("Fixed of %v: error %d", p, e)
	}
	return shifts
}

// P18.1: so are they of all plans and shifts; of shifts that are none of the plan's budget's error is told.
func TestLossByWords(t *testing.T) {
	for _, p := range plans() {
		most := shiftsOf(t, p)
		// A shift more than may be in each place, and one more behind.
		beyond := slices.Clone(most)
		for i := range beyond {
			beyond[i]++
		}
		for _, shifts := range append(rows(beyond), slices.Concat(most, []int{0}), slices.Concat(most, []int{1}), nil, []int{-1}, []int{math.MinInt, math.MaxInt}, extremes) {
			lost, e := real.Loss(p, shifts)
			want, wantError := budget.Of(p, shifts)
			if wantError == api.OK {
				want += 256
			}
			if lost != want || e != wantError {
				t.Fatalf("Loss of %v, shifts %v, is %d, error %d, not %d, %d", p, shifts, lost, e, want, wantError)
			}
		}
	}
}

// P18.2: blocks untangled, by hand.
func TestUntangleByHand(t *testing.T) {
	four := func(parts ...int) []api.Cx { return paired(append(parts, make([]int, 8-len(parts))...)) }
	five := func(parts ...int) []api.Cx { return paired(append(parts, make([]int, 10-len(parts))...)) }
	none, half, block := api.Plan{Log: 2, Scale: api.SNone, Mode: api.MUp}, api.Plan{Log: 2, Mode: api.MUp}, api.Plan{Log: 2, Scale: api.SBlock, Mode: api.MUp}
	long := api.Plan{Format: api.F31, Log: 2, Mode: api.MUp}
	for _, c := range []struct {
		p    api.Plan
		b    api.Block
		want api.Block
	}{
		// Number 0 tells two bins: the sum of its parts, and their difference, halved once and once more by the exponent.
		{half, api.Block{X: four(16, 16)}, api.Block{X: five(16), Exp: 1}},
		{half, api.Block{X: four(20, 6)}, api.Block{X: five(13, 0, 0, 0, 0, 0, 0, 0, 7), Exp: 1}},
		{block, api.Block{X: four(-20, 6), Exp: -5, Shifts: []int{2, 1}}, api.Block{X: five(-7, 0, 0, 0, 0, 0, 0, 0, -13), Exp: -4, Shifts: []int{2, 1}}},
		{none, api.Block{X: four(0, 8), Exp: 100, Sat: true, Shifts: []int{0}}, api.Block{X: five(4, 0, 0, 0, 0, 0, 0, 0, -4), Exp: 101, Sat: true, Shifts: []int{0}}},
		// The middle one tells its own conjugate.
		{half, api.Block{X: four(0, 0, 0, 0, 10, 6), Exp: -100}, api.Block{X: five(0, 0, 0, 0, 5, -3), Exp: -99}},
		// Root 1 of 8 is 5793-5793i, and root 3 -5793-5793i: of number 1 bin 1 is 2399-5793i times as great, divided by 32768, and bin 3 13985-5793i times, of its conjugate.
		{half, api.Block{X: four(0, 0, 1000)}, api.Block{X: five(0, 0, 73, -177, 0, 0, 427, -177), Exp: 1}},
		{half, api.Block{X: four(0, 0, 0, 1000)}, api.Block{X: five(0, 0, 177, 73, 0, 0, -177, -427), Exp: 1}},
		{half, api.Block{X: four(0, 0, 0, 0, 0, 0, 1000)}, api.Block{X: five(0, 0, 427, 177, 0, 0, 73, 177), Exp: 1}},
		{half, api.Block{X: four(0, 0, 0, 0, 0, 0, 0, 1000)}, api.Block{X: five(0, 0, 177, -427, 0, 0, -177, 73), Exp: 1}},
		// At both ends: nothing is clamped, but where nothing is shifted.
		{half, api.Block{X: four(32768, 32768)}, api.Block{X: five(32768), Exp: 1}},
		{block, api.Block{X: four(32768, -32768)}, api.Block{X: five(0, 0, 0, 0, 0, 0, 0, 0, 32768), Exp: 1}},
		{none, api.Block{X: four(32768, 32768)}, api.Block{X: five(32767), Exp: 1, Sat: true}},
		{none, api.Block{X: four(32768, -32768)}, api.Block{X: five(0, 0, 0, 0, 0, 0, 0, 0, 32767), Exp: 1, Sat: true}},
		{none, api.Block{X: four(32767, 32767)}, api.Block{X: five(32767), Exp: 1}},
		{none, api.Block{X: four(32768, 32767)}, api.Block{X: five(32767, 0, 0, 0, 0, 0, 0, 0, 1), Exp: 1, Sat: true}},
		{none, api.Block{X: four(-32768, -32768)}, api.Block{X: five(-32768), Exp: 1}},
		{long, api.Block{X: four(1<<31, 1<<31)}, api.Block{X: five(1 << 31), Exp: 1}},
		{long, api.Block{X: four(-1<<31, -1<<31)}, api.Block{X: five(-1 << 31), Exp: 1}},
		// Root 1 of 8 is 379625062 of both signs here, and all of a number and its opposite goes to one side.
		{long, api.Block{X: four(0, 0, 1<<31, 1<<31, 0, 0, 1<<31, 1<<31)}, api.Block{X: five(0, 0, 1<<30+759250124, -759250124, 0, 0, 1<<30-759250124, -759250124), Exp: 1}},
	} {
		if got := untangle(t, c.b, c.p); !same(got, c.want) {
			t.Errorf("Untangle of %v, plan %v, is %v, not %v", c.b, c.p, got, c.want)
		}
	}
}

// P18.2: each bin is rounded once, in the plan's mode.
func TestUntangleRounds(t *testing.T) {
	for _, c := range []struct{ part, floor, up, even int }{
		{1, 0, 1, 0}, {2, 1, 1, 1}, {3, 1, 2, 2}, {5, 2, 3, 2}, {7, 3, 4, 4}, {-1, -1, 0, 0}, {-2, -1, -1, -1}, {-3, -2, -1, -2}, {-5, -3, -2, -2},
	} {
		for mode, want := range []int{c.floor, c.up, c.even} {
			for _, format := range []int{api.F15, api.F31} {
				for scale := api.SHalf; scale <= api.SNone; scale++ {
					p := api.Plan{Format: format, Log: 3, Scale: scale, Mode: mode}
					// A part of number 0 alone is halved in bin 0, and of the middle one in its own bin.
					b := untangle(t, api.Block{X: []api.Cx{{Re: c.part}, {}, {}, {}, {Re: c.part}, {}, {}, {}}}, p)
					if b.X[0].Re != want || b.X[8].Re != want || b.X[4].Re != want || b.Sat {
						t.Errorf("%d, halved by plan %v, is %v, not %d", c.part, p, b, want)
					}
				}
			}
		}
	}
}

// P18.2: all kinds of blocks untangled, by the words.
func TestUntangleByWords(t *testing.T) {
	t.Parallel()
	for _, p := range plans() {
		for _, b := range blocks(p) {
			holdToWords(t, b, p)
		}
	}
}

// P18.2, R5: the greatest parts, with all signs, in each place and the opposite one: nothing on the way runs over.
func TestUntangleGreatest(t *testing.T) {
	t.Parallel()
	for _, p := range plans() {
		// Whatever the kernel is, blocks are untangled alike; so are they, if something is shifted at all.
		if p.Kernel != api.KTwo || p.Scale == api.SBlock {
			continue
		}
		m, one := 1<<p.Log, oneOf(p)
		for k := range m {
			for signs := range 81 {
				// The three modes take turns at the signs, so that each has all signs of any three parts.
				if (signs+signs/3+signs/9+signs/27+k)%3 != p.Mode {
					continue
				}
				sign := func(place int) int { return one * (signs/place%3 - 1) }
				x := make([]api.Cx, m)
				x[k] = api.Cx{Re: sign(1), Im: sign(3)}
				x[(m-k)%m] = api.Cx{Re: sign(9), Im: sign(27)}
				holdToWords(t, api.Block{X: x}, p)
			}
		}
	}
}

// P18.2: bins by hand; the first ones are the chapter's example.
func TestBinsByHand(t *testing.T) {
	five := func(parts ...int) []api.Cx { return paired(append(parts, make([]int, 10-len(parts))...)) }
	eight := func(part int) []int { return slices.Repeat([]int{part}, 8) }
	for _, c := range []struct {
		x    []int
		p    api.Plan
		want api.Block
	}{
		{eight(4), api.Plan{Log: 2, Scale: api.SNone}, api.Block{X: five(16), Exp: 1, Shifts: []int{0, 0}}},
		{eight(4), api.Plan{Log: 2, Kernel: api.KFour, Scale: api.SNone, Mode: api.MEven}, api.Block{X: five(16), Exp: 1, Shifts: []int{0}}},
		{eight(4), api.Plan{Format: api.F31, Log: 2, Scale: api.SNone, Mode: api.MUp}, api.Block{X: five(16), Exp: 1, Shifts: []int{0, 0}}},
		// Halved to 2, and by each pass; so 2 is all that is left, with an exponent of 4: 32.
		{eight(4), api.Plan{Log: 2}, api.Block{X: five(2), Exp: 4, Shifts: []int{1, 1}}},
		{eight(4), api.Plan{Log: 2, Kernel: api.KSplit}, api.Block{X: five(2), Exp: 4}},
		// Put up to 16384, and shifted twice by each pass: 16384 times 2^-9 is 32, too.
		{eight(4), api.Plan{Log: 2, Scale: api.SBlock}, api.Block{X: five(16384), Exp: -9, Shifts: []int{1, 1}}},
		{eight(0), api.Plan{Log: 2, Scale: api.SBlock}, api.Block{X: five(), Exp: 1, Shifts: []int{0, 0}}},
		// One of all, ahead: all bins are half of it; behind it by one, they go round.
		{alone(8, 0, 1000), api.Plan{Log: 2, Scale: api.SNone}, api.Block{X: five(500, 0, 500, 0, 500, 0, 500, 0, 500), Exp: 1, Shifts: []int{0, 0}}},
		{alone(8, 1, 1000), api.Plan{Log: 2, Scale: api.SNone, Mode: api.MUp}, api.Block{X: five(500, 0, 354, -354, 0, -500, -354, -354, -500), Exp: 1, Shifts: []int{0, 0}}},
		{alone(8, 2, 1000), api.Plan{Log: 2, Scale: api.SNone}, api.Block{X: five(500, 0, 0, -500, -500, 0, 0, 500, 500), Exp: 1, Shifts: []int{0, 0}}},
		// 1 to 8 make 36, -4+9.657i, -4+4i, -4+1.657i and -4.
		{[]int{1, 2, 3, 4, 5, 6, 7, 8}, api.Plan{Log: 2, Scale: api.SNone, Mode: api.MUp}, api.Block{X: five(18, 0, -2, 5, -2, 2, -2, 1, -2), Exp: 1, Shifts: []int{0, 0}}},
		{[]int{1, 2, 3, 4, 5, 6, 7, 8}, api.Plan{Log: 2, Scale: api.SNone}, api.Block{X: five(18, 0, -2, 4, -2, 2, -2, 0, -2), Exp: 1, Shifts: []int{0, 0}}},
		// What is clamped: eight times 30000 make 60000 times 2^1 at most, already clamped by the passes.
		{eight(30000), api.Plan{Log: 2, Scale: api.SNone}, api.Block{X: five(32767), Exp: 1, Sat: true, Shifts: []int{0, 0}}},
		{eight(-30000), api.Plan{Log: 2, Scale: api.SNone}, api.Block{X: five(-32768), Exp: 1, Sat: true, Shifts: []int{0, 0}}},
	} {
		if got := bins(t, c.x, c.p); !same(got, c.want) {
			t.Errorf("Bins of %v, plan %v, are %v, not %v", c.x, c.p, got, c.want)
		}
	}
}

// P18.2: bins of all plans, by the words.
func TestBinsByWords(t *testing.T) {
	t.Parallel()
	eachSample(func(x []int, p api.Plan) {
		if got, want := bins(t, x, p), binsByWords(t, x, p); !same(got, want) {
			t.Fatalf("Bins of %v, plan %v, are %v, not %v", x, p, got, want)
		}
	})
}

// P18.2: they are what fft tells of them packed, untangled.
func TestBinsAreUntangled(t *testing.T) {
	eachSample(func(x []int, p api.Plan) {
		b, e := fft.Run(pack(t, x), p)
		if e != api.OK {
			t.Fatalf("Run of %v, plan %v: error %d", x, p, e)
		}
		if !same(bins(t, x, p), untangle(t, b, p)) {
			t.Fatalf("Bins of %v, plan %v, are not the transform untangled", x, p)
		}
	})
}

// exactBin is the exact transform's bin of real numbers.
func exactBin(x []int, k int) complex128 {
	sum := complex(0, 0)
	for j, part := range x {
		sum += complex(float64(part), 0) * turned(k*j, len(x))
	}
	return sum
}

// farFromExact is how far bins are from the exact ones, in mantissas' 1.
func farFromExact(x []int, b api.Block) float64 {
	far := 0.0
	for k, a := range b.X {
		exact := exactBin(x, k)
		far = max(far, math.Abs(float64(a.Re)-math.Ldexp(re(exact), -b.Exp)), math.Abs(float64(a.Im)-math.Ldexp(im(exact), -b.Exp)))
	}
	return far
}

// holdToWhatFollows holds bins against all that P18.3 tells of them.
func holdToWhatFollows(t *testing.T, x []int, p api.Plan) {
	t.Helper()
	b, m, one := bins(t, x, p), 1<<p.Log, oneOf(p)
	if len(b.X) != m+1 || b.X[0].Im != 0 || b.X[m].Im != 0 {
		t.Fatalf("bins 0 and %d of %v, plan %v, are %v and %v", m, x, p, b.X[0], b.X[m])
	}
	for _, a := range b.X {
		if min(a.Re, a.Im) < -one || max(a.Re, a.Im) > one-1 {
			t.Fatalf("a bin of %v, plan %v, is %v", x, p, a)
		}
	}
	if b.Sat && p.Scale != api.SNone {
		t.Fatalf("of %v, plan %v, is clamped", x, p)
	}
	if far, most := farFromExact(x, b), float64(loss(t, p, b.Shifts))/64; !b.Sat && far > most {
		t.Fatalf("bins of %v, plan %v, are %v away from the exact ones, and may be %v", x, p, far, most)
	}
}

// P18.3, P2, P3: bins 0 and m have no Im, each part is a mantissa, nothing is clamped but where nothing is shifted, and they are near.
func TestWhatFollows(t *testing.T) {
	t.Parallel()
	eachSample(func(x []int, p api.Plan) { holdToWhatFollows(t, x, p) })
}

// P18.3: so is it of numbers that make each bin's parts greatest, or of which only one is not 0.
func TestWhatFollowsOfEachBin(t *testing.T) {
	t.Parallel()
	for _, p := range plans() {
		n := 2 << p.Log
		// The three modes take turns at the bins.
		for k := p.Mode; k <= n/2; k += 3 {
			for _, x := range [][]int{towards(p, k, re), towards(p, k, im), alone(n, k, oneOf(p)-1), alone(n, n-1-k, -oneOf(p)), alone(n, 2*k, 3+k)} {
				holdToWhatFollows(t, x, p)
			}
		}
	}
}

// P18.3: bins 0 and m of any block have no Im.
func TestEndsHaveNoIm(t *testing.T) {
	for _, p := range plans() {
		for _, b := range blocks(p) {
			if y := untangle(t, b, p); y.X[0].Im != 0 || y.X[1<<p.Log].Im != 0 {
				t.Fatalf("the ends of %v untangled, plan %v, are %v and %v", b, p, y.X[0], y.X[1<<p.Log])
			}
		}
	}
}

// R4, and the language's rule 7: what is handed in stays as it was, also behind its ends, and what is answered is new.
func TestNumbersStay(t *testing.T) {
	for _, p := range plans() {
		n := 2 << p.Log
		x, y := parts(n+8, n, 999), paired(parts(n+8, 1, 999))
		shifts := slices.Concat(shiftsOf(t, p), []int{1, 2, 3})
		wasX, wasY, wasShifts := slices.Clone(x), slices.Clone(y), slices.Clone(shifts)
		handed := shifts[:len(shifts)-3]
		packed := pack(t, x[:n])
		b := untangle(t, api.Block{X: y[:n/2], Shifts: handed}, p)
		for _, answer := range []api.Block{b, bins(t, x[:n], p)} {
			for k := range answer.X {
				answer.X[k] = api.Cx{Re: 77, Im: 77}
			}
			for i := range answer.Shifts {
				answer.Shifts[i] = 77
			}
			_ = append(answer.Shifts, 77)
			_ = append(answer.X, api.Cx{Re: 77})
		}
		packed[0] = api.Cx{Re: 77}
		loss(t, p, handed)
		if !slices.Equal(x, wasX) || !slices.Equal(y, wasY) || !slices.Equal(shifts, wasShifts) {
			t.Fatalf("plan %v changes what it is handed", p)
		}
	}
}

// R1: a call tells the same, whatever was called ahead of it.
func TestNothingIsKept(t *testing.T) {
	all := plans()
	for i, p := range all {
		x := parts(2<<p.Log, 5, 1<<15-1)
		b, y, lost := bins(t, x, p), untangle(t, api.Block{X: paired(x)}, p), loss(t, p, shiftsOf(t, p))
		other := all[len(all)-1-i]
		bins(t, parts(2<<other.Log, 6, 9), other)
		untangle(t, api.Block{X: paired(parts(2<<other.Log, 7, 9)), Sat: true}, other)
		refused(t, x[1:], api.Block{X: paired(x[2:])}, p, api.ErrSize)
		if !same(bins(t, x, p), b) || !same(untangle(t, api.Block{X: paired(x)}, p), y) || loss(t, p, shiftsOf(t, p)) != lost {
			t.Errorf("of plan %v is not told the same again", p)
		}
	}
}

// The plans that may be here are 168 of the 420.
func TestPlans(t *testing.T) {
	if here, all := len(plans()), len(plan.Every()); here != 168 || all != 420 {
		t.Errorf("%d plans of %d may be here", here, all)
	}
}
