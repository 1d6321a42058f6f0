package dft_test

import (
	"math"
	"slices"
	"testing"

	"headroom/api"
	"headroom/dft"
)

// The edges that the document names: of parts, either way, and of lengths, told by their powers of 2.
const (
	farthest = 1 << 31
	minLog   = 2
	maxLog   = 6
)

// extremes are numbers that are far from all that may be, or the same as some of these in their last 8, 16 or 32 bits.
var extremes = []int{
	math.MinInt, math.MinInt + 1, -1 << 62, -1<<33 - 1, -1<<32 - 1, -1 << 32, -1<<32 + 1,
	1<<32 - 1, 1 << 32, 1<<32 + 1, 1 << 33, 1 << 61, 1 << 62, math.MaxInt - 1, math.MaxInt,
}

// wrongParts are next to those that may be, and far from them; they have opposites, but for the least number.
var wrongParts = append([]int{farthest + 1, -farthest - 1, farthest + 2, -farthest - 2}, extremes...)

// lengths are all that there are.
func lengths() []int {
	var all []int
	for log := minLog; log <= maxLog; log++ {
		all = append(all, 1<<log)
	}
	return all
}

// wrongLengths are next to those that there are, between them, and far from them.
func wrongLengths() []int {
	all := []int{255, 256, 257, 260, 512, 1<<16 + 4, 1<<16 + 64}
	for n := range 140 {
		if !slices.Contains(lengths(), n) {
			all = append(all, n)
		}
	}
	return all
}

// bothWays are the transform's way and the inverse's.
var bothWays = []bool{false, true}

// places are bins of a length: all of them, those next to them on both sides, and such as are far away.
func places(n int) []int {
	all := slices.Clone(extremes)
	for k := -n - 1; k <= 2*n+1; k++ {
		all = append(all, k)
	}
	for d := range 3 {
		all = append(all, math.MinInt+d, math.MaxInt-d, 1<<57+d, -1<<57-d, 1<<62+n-d, -1<<62+n+d)
	}
	return all
}

// spread are n numbers of which no part is greater than most, either way: many kinds of them, the same in each run.
func spread(n, seed, most int) []api.Cx {
	state := uint64(seed)*2654435761 + 12345
	part := func() int {
		state = state*6364136223846793005 + 1442695040888963407
		return int(state>>20)%(2*most+1) - most
	}
	x := make([]api.Cx, n)
	for k := range x {
		x[k].Re = part()
		x[k].Im = part()
	}
	return x
}

// alone are n numbers of which only one is not 0.
func alone(n, place int, a api.Cx) []api.Cx {
	x := make([]api.Cx, n)
	x[place%n] = a
	return x
}

// corners are n numbers whose parts are as great as may be, either way, by a seed's bits.
func corners(n, seed int) []api.Cx {
	x := spread(n, seed, 1<<20)
	for k, a := range x {
		x[k] = api.Cx{Re: farthest, Im: farthest}
		if a.Re < 0 {
			x[k].Re = -farthest
		}
		if a.Im < 0 {
			x[k].Im = -farthest
		}
	}
	return x
}

// samples are numbers of each kind that may be: great and small, alone, all the same, and at the edges.
func samples(n int) [][]api.Cx {
	all := [][]api.Cx{
		make([]api.Cx, n), alone(n, 0, api.Cx{Re: 1}), alone(n, 1, api.Cx{Re: -1}), alone(n, 1, api.Cx{Im: 1}), alone(n, n-1, api.Cx{Re: 3, Im: -farthest}),
		slices.Repeat([]api.Cx{{Re: farthest, Im: farthest}}, n), slices.Repeat([]api.Cx{{Re: -farthest, Im: -farthest}}, n),
		slices.Repeat([]api.Cx{{Re: farthest, Im: -farthest}, {Re: -farthest, Im: farthest}}, n/2),
	}
	for seed := range 3 {
		all = append(all, spread(n, seed, 1), spread(n, seed, 1000), spread(n, seed, 1<<15), spread(n, seed, 1<<24), spread(n, seed, farthest), corners(n, seed))
	}
	return all
}

// eachSample goes through samples of all lengths.
func eachSample(do func(n int, x []api.Cx)) {
	for _, n := range lengths() {
		for _, x := range samples(n) {
			do(n, x)
		}
	}
}

func binOf(t *testing.T, x []api.Cx, k int, inverse bool) api.Cx {
	t.Helper()
	z, e := dft.Bin(x, k, inverse)
	if e != api.OK {
		t.Fatalf("Bin %d of %v, inverse %t: error %d", k, x, inverse, e)
	}
	return z
}

func binsOf(t *testing.T, x []api.Cx, inverse bool) []api.Cx {
	t.Helper()
	all, e := dft.All(x, inverse)
	if e != api.OK || len(all) != len(x) {
		t.Fatalf("All of %v, inverse %t: %d bins, error %d", x, inverse, len(all), e)
	}
	return all
}

func slackOf(t *testing.T, x []api.Cx) int {
	t.Helper()
	s, e := dft.Slack(x)
	if e != api.OK {
		t.Fatalf("Slack of %v: error %d", x, e)
	}
	return s
}

// refused holds the error that all calls tell of numbers against what it is to be; beside it is nothing.
func refused(t *testing.T, x []api.Cx, want api.Errno) {
	t.Helper()
	for _, inverse := range bothWays {
		for _, k := range []int{0, 1, 63, -1, math.MinInt, math.MaxInt} {
			if z, e := dft.Bin(x, k, inverse); z != (api.Cx{}) || e != want {
				t.Errorf("Bin %d of %d numbers, inverse %t, is %v, error %d, not %d", k, len(x), inverse, z, e, want)
			}
		}
		if all, e := dft.All(x, inverse); len(all) != 0 || e != want {
			t.Errorf("All of %d numbers, inverse %t, are %v, error %d, not %d", len(x), inverse, all, e, want)
		}
	}
	if s, e := dft.Slack(x); s != 0 || e != want {
		t.Errorf("Slack of %d numbers is %d, error %d, not %d", len(x), s, e, want)
	}
}

// counted are 1, 2, 3, 4.
var counted = []api.Cx{{Re: 1}, {Re: 2}, {Re: 3}, {Re: 4}}

// P16.1: the document's example.
func TestBinOfTheExample(t *testing.T) {
	if z := binOf(t, counted, 1, false); z != (api.Cx{Re: -512, Im: 512}) {
		t.Errorf("Bin 1 of 1, 2, 3, 4 is %v", z)
	}
}

// P16.1: transforms by hand; those of 8 are cut off from roots of 777472127994, which are a little more than 181 times 2^32.
func TestAllByHand(t *testing.T) {
	for _, c := range []struct {
		x       []api.Cx
		inverse bool
		want    []api.Cx
	}{
		{counted, false, []api.Cx{{Re: 2560}, {Re: -512, Im: 512}, {Re: -512}, {Re: -512, Im: -512}}},
		{counted, true, []api.Cx{{Re: 2560}, {Re: -512, Im: -512}, {Re: -512}, {Re: -512, Im: 512}}},
		{alone(4, 1, api.Cx{Re: 2, Im: 1}), false, []api.Cx{{Re: 512, Im: 256}, {Re: 256, Im: -512}, {Re: -512, Im: -256}, {Re: -256, Im: 512}}},
		{alone(8, 1, api.Cx{Re: 1}), false, []api.Cx{{Re: 256}, {Re: 181, Im: -182}, {Im: -256}, {Re: -182, Im: -182}, {Re: -256}, {Re: -182, Im: 181}, {Im: 256}, {Re: 181, Im: 181}}},
		{alone(8, 1, api.Cx{Re: 1}), true, []api.Cx{{Re: 256}, {Re: 181, Im: 181}, {Im: 256}, {Re: -182, Im: 181}, {Re: -256}, {Re: -182, Im: -182}, {Im: -256}, {Re: 181, Im: -182}}},
		{alone(8, 1, api.Cx{Im: -1}), false, []api.Cx{{Im: -256}, {Re: -182, Im: -182}, {Re: -256}, {Re: -182, Im: 181}, {Im: 256}, {Re: 181, Im: 181}, {Re: 256}, {Re: 181, Im: -182}}},
	} {
		if all := binsOf(t, c.x, c.inverse); !slices.Equal(all, c.want) {
			t.Errorf("All of %v, inverse %t, are %v, not %v", c.x, c.inverse, all, c.want)
		}
	}
}

// made are n numbers, each told of its place.
func made(n int, tell func(j int) api.Cx) []api.Cx {
	x := make([]api.Cx, n)
	for j := range x {
		x[j] = tell(j)
	}
	return x
}

// P16.1: bins that a program apart from this one found by the document's words, from the series of the angles on.
func TestBinsByHand(t *testing.T) {
	small := made(16, func(j int) api.Cx { return api.Cx{Re: j, Im: -3 * j} })
	cubes := made(32, func(j int) api.Cx { return api.Cx{Re: 1000*j*j - 7, Im: j - 5*j*j*j} })
	great := made(64, func(j int) api.Cx {
		a := api.Cx{Re: -farthest, Im: farthest}
		if (j*5+1)%3 != 0 {
			a.Re = farthest
		}
		if j*j%5 > 2 {
			a.Im = -farthest
		}
		return a
	})
	for _, c := range []struct {
		x       []api.Cx
		k       int
		inverse bool
		want    api.Cx
	}{
		{small, 1, false, api.Cx{Re: 28839, Im: 16439}},
		{small, 5, false, api.Cx{Re: 2057, Im: 7512}},
		{small, 15, false, api.Cx{Re: -32936, Im: -4152}},
		{small, -1, false, api.Cx{Re: -32936, Im: -4152}},
		{small, 1, true, api.Cx{Re: -32936, Im: -4152}},
		{small, 5, true, api.Cx{Re: -6154, Im: 4775}},
		{cubes, 3, false, api.Cx{Re: -14545027, Im: 441387874}},
		{cubes, 11, false, api.Cx{Re: -114619554, Im: 89762970}},
		{cubes, math.MinInt + 7, false, api.Cx{Re: -95438591, Im: 178236508}},
		{cubes, math.MaxInt, false, api.Cx{Re: 114847242, Im: -1412150481}},
		{cubes, 3, true, api.Cx{Re: -150382085, Im: -422785081}},
		{great, 0, false, api.Cx{Re: 12094627905536, Im: 6597069766656}},
		{great, 1, false, api.Cx{Re: 344150322555, Im: -406964558940}},
		{great, 31, false, api.Cx{Re: 993890857363, Im: -114270416284}},
		{great, 47, false, api.Cx{Re: -1079291630002, Im: -504306897723}},
		{great, 1, true, api.Cx{Re: 387677095985, Im: -479043268408}},
		{great, 29, true, api.Cx{Re: 1577414437177, Im: 286042942323}},
	} {
		if z := binOf(t, c.x, c.k, c.inverse); z != c.want {
			t.Errorf("Bin %d of %v, inverse %t, is %v, not %v", c.k, c.x, c.inverse, z, c.want)
		}
	}
}

// P16.1: all bins are those of 0 to n-1, in order.
func TestAllAreBins(t *testing.T) {
	eachSample(func(_ int, x []api.Cx) {
		for _, inverse := range bothWays {
			for k, z := range binsOf(t, x, inverse) {
				if want := binOf(t, x, k, inverse); z != want {
					t.Fatalf("number %d of All of %v, inverse %t, is %v, not %v", k, x, inverse, z, want)
				}
			}
		}
	})
}

// P16.1: slacks by hand, next to where they change: 2·n·m is 2^32 where m is 2^31 divided by n.
func TestSlackByHand(t *testing.T) {
	for _, c := range []struct{ n, m, want int }{
		{4, 0, 2}, {4, 1, 2}, {4, 1<<29 - 1, 2}, {4, 1 << 29, 3}, {4, 1<<30 - 1, 3}, {4, 1 << 30, 4}, {4, farthest - 1, 5}, {4, farthest, 6},
		{8, 1<<28 - 1, 2}, {8, 1 << 28, 3}, {8, farthest - 1, 9}, {8, farthest, 10},
		{16, 1<<27 - 1, 2}, {16, 1 << 27, 3}, {16, farthest - 1, 17}, {16, farthest, 18},
		{32, 1<<26 - 1, 2}, {32, 1 << 26, 3}, {32, farthest - 1, 33}, {32, farthest, 34},
		{64, 1, 2}, {64, 1<<25 - 1, 2}, {64, 1 << 25, 3}, {64, 3<<25 - 1, 4}, {64, 3 << 25, 5}, {64, farthest - 1, 65}, {64, farthest, 66},
	} {
		for place := range c.n {
			for _, a := range []api.Cx{{Re: c.m}, {Re: -c.m}, {Im: c.m}, {Im: -c.m}, {Re: c.m / 2, Im: -c.m}, {Re: -c.m, Im: c.m / 3}} {
				if s := slackOf(t, alone(c.n, place, a)); s != c.want {
					t.Errorf("Slack of %d numbers of which number %d is %v, is %d, not %d", c.n, place, a, s, c.want)
				}
			}
		}
	}
}

// P16.1, R2, R3, P1: numbers that are not as many as a length, and none, are told, ahead of parts that may not be.
func TestErrSize(t *testing.T) {
	refused(t, nil, api.ErrSize)
	refused(t, []api.Cx{}, api.ErrSize)
	for _, n := range wrongLengths() {
		refused(t, make([]api.Cx, n), api.ErrSize)
		for _, wrong := range wrongParts {
			refused(t, slices.Repeat([]api.Cx{{Re: wrong, Im: wrong}}, n), api.ErrSize)
		}
	}
}

// P16.1, R2, P1: a part that may not be is told, wherever it is, and both sides of the edge.
func TestErrRange(t *testing.T) {
	for _, n := range lengths() {
		for place := range n {
			for _, wrong := range wrongParts {
				refused(t, alone(n, place, api.Cx{Re: wrong}), api.ErrRange)
				refused(t, alone(n, place, api.Cx{Im: wrong}), api.ErrRange)
			}
			x := slices.Repeat([]api.Cx{{Re: farthest, Im: -farthest}}, n)
			binOf(t, x, place, false)
			x[place].Re++
			refused(t, x, api.ErrRange)
			x[place] = api.Cx{Re: farthest, Im: -farthest - 1}
			refused(t, x, api.ErrRange)
		}
	}
}

// R4, and the language's rule 7: numbers handed in stay as they were, and those answered are apart from them.
func TestNumbersStay(t *testing.T) {
	for _, inverse := range bothWays {
		behind := spread(100, 5, farthest)
		x, was := behind[10:74], slices.Clone(behind)
		all := binsOf(t, x, inverse)
		binOf(t, x, 9, inverse)
		slackOf(t, x)
		clear(all[:cap(all)])
		if !slices.Equal(behind, was) {
			t.Errorf("numbers share with those answered, or are changed: %v", behind)
		}
	}
	x := alone(8, 7, api.Cx{Re: 5, Im: math.MaxInt})
	refused(t, x, api.ErrRange)
	if !slices.Equal(x, alone(8, 7, api.Cx{Re: 5, Im: math.MaxInt})) {
		t.Errorf("numbers that are refused are changed: %v", x)
	}
}

// R1: a call tells the same, whatever was called ahead of it, and whatever was done with what it told.
func TestNothingIsKept(t *testing.T) {
	type answer struct {
		all []api.Cx
		s   int
		e   api.Errno
	}
	x, y := spread(64, 1, farthest), spread(8, 2, 1000)
	list := func(all []api.Cx, e api.Errno) answer { return answer{all, 0, e} }
	one := func(z api.Cx, e api.Errno) answer { return answer{[]api.Cx{z}, 0, e} }
	number := func(s int, e api.Errno) answer { return answer{nil, s, e} }
	calls := []func() answer{
		func() answer { return list(dft.All(x, false)) },
		func() answer { return list(dft.All(x, true)) },
		func() answer { return list(dft.All(y, false)) },
		func() answer { return list(dft.All(y[1:], false)) },
		func() answer { return one(dft.Bin(x, 5, false)) },
		func() answer { return one(dft.Bin(x, 5, true)) },
		func() answer { return one(dft.Bin(y, math.MinInt, true)) },
		func() answer { return one(dft.Bin([]api.Cx{{}, {}, {}, {Re: math.MinInt}}, 5, true)) },
		func() answer { return number(dft.Slack(x)) },
		func() answer { return number(dft.Slack(y)) },
		func() answer { return number(dft.Slack(nil)) },
	}
	var first []answer
	for _, call := range calls {
		a := call()
		first = append(first, answer{slices.Clone(a.all), a.s, a.e})
		clear(a.all)
	}
	for i := len(calls) - 1; i >= 0; i-- {
		if again := calls[i](); !slices.Equal(again.all, first[i].all) || again.s != first[i].s || again.e != first[i].e {
			t.Errorf("call %d: first %v, then %v", i, first[i], again)
		}
	}
}
