package window_test

import (
	"math"
	"slices"
	"testing"

	"headroom/api"
	"headroom/window"
)

// extremes are numbers that are far from all that may be, or the same as some of these in their last 8, 16 or 32 bits.
var extremes = []int{
	math.MinInt, math.MinInt + 1, math.MinInt + 2, math.MinInt + 3, math.MinInt + 13, -1 << 62, -1<<32 - 1, -1 << 32, -1<<32 + 1, -1<<32 + 2,
	1<<32 - 1, 1 << 32, 1<<32 + 1, 1<<32 + 2, 1<<32 + 3, 1 << 62, math.MaxInt - 1, math.MaxInt,
}

// settings are what real numbers are weighed by.
type settings struct{ kind, format, mode int }

// eachSetting goes through all settings and lengths that may be.
func eachSetting(do func(log int, s settings)) {
	for log := minLog; log <= maxLog; log++ {
		for kind := range kinds {
			for format := range 2 {
				for mode := range modes {
					do(log, settings{kind, format, mode})
				}
			}
		}
	}
}

// eachWindow goes through all windows that there are.
func eachWindow(do func(kind, log, bits int)) {
	for kind := range kinds {
		for log := minLog; log <= maxLog; log++ {
			for bits := range maxBits + 1 {
				do(kind, log, bits)
			}
		}
	}
}

func table(t *testing.T, kind, log, bits int) []int {
	t.Helper()
	all, e := window.Table(kind, log, bits)
	if e != api.OK || len(all) != 1<<log {
		t.Fatalf("Table of kind %d, 2^%d in %d bits: %d weights, error %d", kind, log, bits, len(all), e)
	}
	return all
}

func sum(t *testing.T, kind, log, bits int) int {
	t.Helper()
	all, e := window.Sum(kind, log, bits)
	if e != api.OK {
		t.Fatalf("Sum of kind %d, 2^%d in %d bits: error %d", kind, log, bits, e)
	}
	return all
}

func apply(t *testing.T, x []int, s settings) []int {
	t.Helper()
	y, e := window.Apply(x, s.kind, s.format, s.mode)
	if e != api.OK || len(y) != len(x) {
		t.Fatalf("Apply of %v by %v: %d numbers, error %d", x, s, len(y), e)
	}
	return y
}

// parts are n numbers that are not greater than most, either way: many kinds of them, the same in each run.
func parts(n, seed, most int) []int {
	state := uint64(seed)*2654435761 + 12345
	x := make([]int, n)
	for j := range x {
		state = state*6364136223846793005 + 1442695040888963407
		x[j] = int(state>>20)%(2*most+1) - most
	}
	return x
}

// edges are n numbers that are as great as may be, or as little, by a seed's bits.
func edges(n, seed, format int) []int {
	one := 1 << bitsOf(format)
	x := parts(n, seed, 1<<20)
	for j, part := range x {
		x[j] = one - 1
		if part < 0 {
			x[j] = -one
		}
	}
	return x
}

// samples are n mantissas of a format, of each kind that there are.
func samples(n, format int) [][]int {
	one := 1 << bitsOf(format)
	all := [][]int{
		make([]int, n), slices.Repeat([]int{-one}, n), slices.Repeat([]int{one - 1}, n), slices.Repeat([]int{1}, n), slices.Repeat([]int{-1}, n),
		slices.Repeat([]int{one / 2}, n), slices.Repeat([]int{-one / 2}, n), edges(n, 1, format), edges(n, 2, format),
	}
	for _, m := range []int{1, 3, 100, one / 100, one / 4, one/2 + 1, one - 1} {
		all = append(all, parts(n, m, m), parts(n, m+1, m), parts(n, m+2, m))
	}
	return all
}

// P19.1: the document's example.
func TestTableOfTheExample(t *testing.T) {
	if w := table(t, api.WHann, 2, 13); !slices.Equal(w, []int{0, 4096, 8192, 4096}) {
		t.Errorf("the weights are %v", w)
	}
}

// P19.1: windows by hand, of roots that are told by hand, too.
func TestTableByHand(t *testing.T) {
	for _, c := range []struct {
		kind, log, bits int
		want            []int
	}{
		{api.WRect, 2, 0, []int{1, 1, 1, 1}},
		{api.WRect, 3, 40, slices.Repeat([]int{1 << 40}, 8)},
		// Root 1 of 8 is 5793 in 13 bits: 2399 and 13985 are odd, and their halves go up.
		{api.WHann, 3, 13, []int{0, 1200, 4096, 6993, 8192, 6993, 4096, 1200}},
		{api.WHann, 2, 0, []int{0, 1, 1, 1}},
		{api.WHann, 2, 40, []int{0, 1 << 39, 1 << 40, 1 << 39}},
		// 4, 25 and 46 times 8192, divided by 46: 712.3, 4452.2, 8192.
		{api.WHamming, 2, 13, []int{712, 4452, 8192, 4452}},
		// 25 times 8192 less, and with, 21 times 5793, divided by 46: 1807.5, 7096.8.
		{api.WHamming, 3, 13, []int{712, 1807, 4452, 7096, 8192, 7096, 4452, 1807}},
		{api.WHamming, 2, 0, []int{0, 0, 1, 0}},
		{api.WHamming, 2, 40, []int{95609706763, 597560667269, 1 << 40, 597560667269}},
		// 0, 17, 50 and 17 times 8192, divided by 50: 2785.3.
		{api.WBlackman, 2, 13, []int{0, 2785, 8192, 2785}},
		// 21 times 8192 less, and with, 25 times 5793, divided by 50: 544.1, 6337.1.
		{api.WBlackman, 3, 13, []int{0, 544, 2785, 6337, 8192, 6337, 2785, 544}},
		{api.WBlackman, 2, 40, []int{0, 373833953443, 1 << 40, 373833953443}},
		// Root 1 of 8 is 1 in no bits: 21 less 25 is -4, and that divided by 50 is -1, rounded down.
		{api.WBlackman, 3, 0, []int{0, -1, 0, 0, 1, 0, 0, -1}},
	} {
		if w := table(t, c.kind, c.log, c.bits); !slices.Equal(w, c.want) {
			t.Errorf("Table of kind %d, 2^%d in %d bits is %v, not %v", c.kind, c.log, c.bits, w, c.want)
		}
	}
}

// P19.1: windows' kinds are told by these numbers.
func TestKinds(t *testing.T) {
	for kind, want := range [][]int{{8192, 8192, 8192, 8192}, {0, 4096, 8192, 4096}, {712, 4452, 8192, 4452}, {0, 2785, 8192, 2785}} {
		if w := table(t, kind, 2, 13); !slices.Equal(w, want) {
			t.Errorf("the window of kind %d is %v, not %v", kind, w, want)
		}
	}
}

// P19.1: all windows that there are, by the document's words.
func TestTableByWords(t *testing.T) {
	t.Parallel()
	eachWindow(func(kind, log, bits int) {
		if w, want := table(t, kind, log, bits), windowByWords(t, kind, log, bits); !slices.Equal(w, want) {
			t.Errorf("Table of kind %d, 2^%d in %d bits is %v, not %v", kind, log, bits, w, want)
		}
	})
}

// exactWeight is weight k of n as the cosine has it, of 1.
func exactWeight(kind, k, n int) float64 {
	c := func(k int) float64 { return math.Cos(2 * math.Pi * float64(k) / float64(n)) }
	return []float64{1, 0.5 - 0.5*c(k), (25 - 21*c(k)) / 46, (21 - 25*c(k) + 4*c(2*k)) / 50}[kind]
}

// P19.1: weights lie where the cosine has them, to what roots and the division round.
func TestTableIsNearTheCosine(t *testing.T) {
	eachWindow(func(kind, log, bits int) {
		for k, w := range table(t, kind, log, bits) {
			if want := math.Ldexp(exactWeight(kind, k, 1<<log), bits); math.Abs(float64(w)-want) > 1.5 {
				t.Errorf("weight %d of kind %d, 2^%d in %d bits is %d, not near %f", k, kind, log, bits, w, want)
			}
		}
	})
}

// P19.1: sums by hand.
func TestSumByHand(t *testing.T) {
	for _, c := range []struct{ kind, log, bits, want int }{
		{api.WRect, 2, 13, 32768},
		{api.WRect, 6, 40, 1 << 46},
		{api.WRect, 6, 0, 64},
		{api.WHann, 2, 13, 16384},
		// Two of its halves go up, each in two places.
		{api.WHann, 3, 13, 32770},
		{api.WHann, 2, 40, 1 << 41},
		{api.WHamming, 2, 13, 17808},
		{api.WHamming, 3, 13, 35614},
		{api.WBlackman, 2, 13, 13762},
		{api.WBlackman, 3, 13, 27524},
		{api.WBlackman, 3, 0, -1},
	} {
		if got := sum(t, c.kind, c.log, c.bits); got != c.want {
			t.Errorf("Sum of kind %d, 2^%d in %d bits is %d, not %d", c.kind, c.log, c.bits, got, c.want)
		}
	}
}

// P19.1: a sum is that of the table's weights, of all windows.
func TestSumIsTheTables(t *testing.T) {
	eachWindow(func(kind, log, bits int) {
		want := 0
		for _, w := range table(t, kind, log, bits) {
			want += w
		}
		if got := sum(t, kind, log, bits); got != want {
			t.Errorf("Sum of kind %d, 2^%d in %d bits is %d, not %d", kind, log, bits, got, want)
		}
	})
}

// P19.2: numbers weighed, by hand.
func TestApplyByHand(t *testing.T) {
	for _, c := range []struct {
		s       settings
		x, want []int
	}{
		{settings{api.WRect, api.F15, api.MFloor}, []int{1, -2, 32767, -32768}, []int{1, -2, 32767, -32768}},
		{settings{api.WHann, api.F15, api.MFloor}, []int{100, 100, 100, -100}, []int{0, 50, 100, -50}},
		{settings{api.WHann, api.F31, api.MFloor}, []int{-1 << 31, -1 << 31, 1<<31 - 1, 1<<31 - 1}, []int{0, -1 << 30, 1<<31 - 1, 1<<30 - 1}},
		// Halves, in each mode: of Q15 and Q31 alike.
		{settings{api.WHann, api.F15, api.MFloor}, []int{9, 5, 7, -5}, []int{0, 2, 7, -3}},
		{settings{api.WHann, api.F15, api.MUp}, []int{9, 5, 7, -5}, []int{0, 3, 7, -2}},
		{settings{api.WHann, api.F15, api.MEven}, []int{9, 5, 7, -5}, []int{0, 2, 7, -2}},
		{settings{api.WHann, api.F31, api.MFloor}, []int{9, 7, 7, -7}, []int{0, 3, 7, -4}},
		{settings{api.WHann, api.F31, api.MUp}, []int{9, 7, 7, -7}, []int{0, 4, 7, -3}},
		{settings{api.WHann, api.F31, api.MEven}, []int{9, 7, 7, -7}, []int{0, 4, 7, -4}},
		// 712, 4452 and 8192 of 8192: 869.1, 5434.6.
		{settings{api.WHamming, api.F15, api.MFloor}, []int{10000, 10000, 10000, -10000}, []int{869, 5434, 10000, -5435}},
		{settings{api.WHamming, api.F15, api.MUp}, []int{10000, 10000, -10000, -10000}, []int{869, 5435, -10000, -5435}},
		{settings{api.WHamming, api.F15, api.MUp}, []int{-10000, 0, 1, 1}, []int{-869, 0, 1, 1}},
		// 2785 of 8192: 3399.7, and 544 and 6337 of them: 664.1, 7735.6.
		{settings{api.WBlackman, api.F15, api.MUp}, []int{10000, 10000, 10000, -10000}, []int{0, 3400, 10000, -3400}},
		{settings{api.WBlackman, api.F15, api.MFloor}, slices.Repeat([]int{10000}, 8), []int{0, 664, 3399, 7735, 10000, 7735, 3399, 664}},
		{settings{api.WBlackman, api.F15, api.MEven}, slices.Repeat([]int{-10000}, 8), []int{0, -664, -3400, -7736, -10000, -7736, -3400, -664}},
	} {
		if y := apply(t, c.x, c.s); !slices.Equal(y, c.want) {
			t.Errorf("%v weighed by %v are %v, not %v", c.x, c.s, y, c.want)
		}
	}
}

// P19.2: numbers weighed by the words, of all settings and lengths.
func TestApplyByWords(t *testing.T) {
	t.Parallel()
	eachSetting(func(log int, s settings) {
		weights := windowByWords(t, s.kind, log, bitsOf(s.format)-2)
		for _, x := range samples(1<<log, s.format) {
			if y, want := apply(t, x, s), weighedByWords(x, weights, s.format, s.mode); !slices.Equal(y, want) {
				t.Errorf("%v weighed by %v are %v, not %v", x, s, y, want)
			}
		}
	})
}

// P19.2: each number is weighed alone: what is beside it changes nothing of it.
func TestApplyWeighsEachAlone(t *testing.T) {
	eachSetting(func(log int, s settings) {
		x := parts(1<<log, log, 1<<bitsOf(s.format)-1)
		all := apply(t, x, s)
		for k := range x {
			alone := make([]int, len(x))
			alone[k] = x[k]
			want := make([]int, len(x))
			want[k] = all[k]
			if y := apply(t, alone, s); !slices.Equal(y, want) {
				t.Errorf("%v weighed by %v are %v, not %v", alone, s, y, want)
			}
		}
	})
}

// P19.3: weight k is weight n-k.
func TestWeightsAreMirrored(t *testing.T) {
	eachWindow(func(kind, log, bits int) {
		w := table(t, kind, log, bits)
		for k := 1; k < len(w); k++ {
			if w[k] != w[len(w)-k] {
				t.Errorf("weights %d and %d of kind %d, 2^%d in %d bits are %d and %d", k, len(w)-k, kind, log, bits, w[k], w[len(w)-k])
			}
		}
	})
}

// P19.3: weights are 0 to 2^bits, of 13 bits or more.
func TestWeightsAreWithin(t *testing.T) {
	eachWindow(func(kind, log, bits int) {
		w := table(t, kind, log, bits)
		if bits >= 13 && (slices.Min(w) < 0 || slices.Max(w) > 1<<bits) {
			t.Errorf("weights of kind %d, 2^%d in %d bits are %d to %d", kind, log, bits, slices.Min(w), slices.Max(w))
		}
	})
}

// P19.3: of WHann two of half a length's distance are 2^bits together, or 1 more.
func TestHannsHalves(t *testing.T) {
	more := 0
	for log := minLog; log <= maxLog; log++ {
		for bits := range maxBits + 1 {
			w, half := table(t, api.WHann, log, bits), 1<<log/2
			for k := range half {
				over := w[k] + w[k+half] - 1<<bits
				if over < 0 || over > 1 {
					t.Errorf("weights %d and %d of 2^%d in %d bits are %d and %d", k, k+half, log, bits, w[k], w[k+half])
				}
				more += over
			}
		}
	}
	if more == 0 {
		t.Error("none are 1 more")
	}
}

// size is how far a number is from 0.
func size(x int) int { return max(x, -x) }

// P19.3: numbers weighed are not farther from 0 than before, and 1.
func TestWeighedAreNotFarther(t *testing.T) {
	eachSetting(func(log int, s settings) {
		for _, x := range samples(1<<log, s.format) {
			for k, a := range apply(t, x, s) {
				if size(a) > size(x[k])+1 {
					t.Errorf("%d, number %d of 2^%d, weighed by %v is %d", x[k], k, log, s, a)
				}
			}
		}
	})
}

// P19.3: by WRect numbers are as they were.
func TestRectChangesNothing(t *testing.T) {
	eachSetting(func(log int, s settings) {
		s.kind = api.WRect
		for _, x := range samples(1<<log, s.format) {
			if y := apply(t, x, s); !slices.Equal(y, x) {
				t.Errorf("%v weighed by %v are %v", x, s, y)
			}
		}
	})
}

// R4, and the language's rule 7: what is handed in stays as it was, also behind its end, and what is answered is new.
func TestNumbersStay(t *testing.T) {
	eachSetting(func(log int, s settings) {
		n := 1 << log
		x := parts(n+8, n, 9999)
		was := slices.Clone(x)
		y := apply(t, x[:n], s)
		for k := range y {
			y[k] = 77
		}
		_ = append(y, 77)
		if !slices.Equal(x, was) {
			t.Fatalf("Apply by %v changes what it is handed", s)
		}
	})
}

// R1: a call tells the same, whatever was called ahead of it, and what is done with its answer.
func TestNothingIsKept(t *testing.T) {
	eachSetting(func(log int, s settings) {
		bits, x := bitsOf(s.format)-2, parts(1<<log, 5, 1<<15-1)
		w, all, y := table(t, s.kind, log, bits), sum(t, s.kind, log, bits), apply(t, x, s)
		wasW, wasY := slices.Clone(w), slices.Clone(y)
		for k := range w {
			w[k], y[k] = 77, 77
		}
		table(t, (s.kind+1)%kinds, minLog+maxLog-log, bits+1)
		sum(t, (s.kind+2)%kinds, log, bits-1)
		apply(t, make([]int, 1<<(minLog+maxLog-log)), settings{(s.kind + 3) % kinds, 1 - s.format, (s.mode + 1) % modes})
		applyRefused(t, x, settings{s.kind, s.format, 3}, api.ErrArg)
		if !slices.Equal(table(t, s.kind, log, bits), wasW) || sum(t, s.kind, log, bits) != all || !slices.Equal(apply(t, x, s), wasY) {
			t.Errorf("of %v, 2^%d, is not told the same again", s, log)
		}
	})
}
