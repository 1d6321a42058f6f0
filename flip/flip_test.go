package flip_test

import (
	"math"
	"slices"
	"testing"

	"headroom/api"
	"headroom/flip"
)

// The edges that the document names: of lengths.
const (
	minLog = 2
	maxLog = 6
)

// manyNumbers is more than any length, twice and beyond.
const manyNumbers = 200

// extremes are numbers that are far from all that may be.
var extremes = []int{math.MinInt, math.MinInt + 1, -1 << 62, -1 << 32, 1 << 31, 1 << 32, 1<<32 + 4, 1 << 61, 1 << 62, math.MaxInt - 1, math.MaxInt}

// wrongLogs are next to all that may be, and far from it.
var wrongLogs = append([]int{-1, -2, -6, 0, 1, maxLog + 1, maxLog + 2, 12, 31, 32, 61, 62, 63, 64, 65, 66, 128 + 2, 256 + 6}, extremes...)

// rows are all places flipped, as a program apart from this one found them by the bits written out and told from behind.
var rows = map[int][]int{
	2: {0, 2, 1, 3},
	3: {0, 4, 2, 6, 1, 5, 3, 7},
	4: {0, 8, 4, 12, 2, 10, 6, 14, 1, 9, 5, 13, 3, 11, 7, 15},
	5: {0, 16, 8, 24, 4, 20, 12, 28, 2, 18, 10, 26, 6, 22, 14, 30, 1, 17, 9, 25, 5, 21, 13, 29, 3, 19, 11, 27, 7, 23, 15, 31},
	6: {0, 32, 16, 48, 8, 40, 24, 56, 4, 36, 20, 52, 12, 44, 28, 60, 2, 34, 18, 50, 10, 42, 26, 58, 6, 38, 22, 54, 14, 46, 30, 62, 1, 33, 17, 49, 9, 41, 25, 57, 5, 37, 21, 53, 13, 45, 29, 61, 3, 35, 19, 51, 11, 43, 27, 59, 7, 39, 23, 55, 15, 47, 31, 63},
}

// each goes through all lengths.
func each(do func(log, n int)) {
	for log := minLog; log <= maxLog; log++ {
		do(log, 1<<log)
	}
}

func bits(t *testing.T, i, log int) int {
	t.Helper()
	f, e := flip.Bits(i, log)
	if e != api.OK {
		t.Fatalf("Bits of %d of 2^%d: error %d", i, log, e)
	}
	return f
}

func row(t *testing.T, log int) []int {
	t.Helper()
	all, e := flip.Row(log)
	if e != api.OK || len(all) != 1<<log {
		t.Fatalf("Row of 2^%d: %d places, error %d", log, len(all), e)
	}
	return all
}

func flipped(t *testing.T, x []api.Cx) []api.Cx {
	t.Helper()
	y, e := flip.Flip(x)
	if e != api.OK || len(y) != len(x) {
		t.Fatalf("Flip of %d numbers: %d numbers, error %d", len(x), len(y), e)
	}
	return y
}

// numbers are n numbers no two of which have a part in common; the last are as great as numbers may be.
func numbers(n int) []api.Cx {
	x := make([]api.Cx, n)
	for k := range x {
		x[k] = api.Cx{Re: 1000 + k, Im: -2000 - k}
	}
	if n > 1 {
		x[n-2] = api.Cx{Re: math.MinInt, Im: math.MaxInt}
		x[n-1] = api.Cx{Re: math.MaxInt - 1, Im: math.MinInt + 1}
	}
	return x
}

// P8.1: the document's example.
func TestBitsOfTheExample(t *testing.T) {
	if f := bits(t, 1, 4); f != 8 {
		t.Errorf("Bits of 1 of 2^4 is %d", f)
	}
}

// P8.1: all places flipped, by hand.
func TestPlacesByHand(t *testing.T) {
	each(func(log, n int) {
		if all := row(t, log); !slices.Equal(all, rows[log]) {
			t.Errorf("Row of 2^%d is %v", log, all)
		}
		for i := range n {
			if f := bits(t, i, log); f != rows[log][i] {
				t.Errorf("Bits of %d of 2^%d is %d, not %d", i, log, f, rows[log][i])
			}
		}
	})
}

// P8.1: bit j of a place flipped is bit log-1-j of the place, and it has no other bits.
func TestBitsByWords(t *testing.T) {
	each(func(log, n int) {
		for i := range n {
			f := bits(t, i, log)
			for j := range log {
				if f>>j&1 != i>>(log-1-j)&1 {
					t.Errorf("bit %d of %d of 2^%d, flipped, is not bit %d of it: %d", j, i, log, log-1-j, f)
				}
			}
			if f < 0 || f >= n {
				t.Errorf("%d of 2^%d, flipped, is no place: %d", i, log, f)
			}
		}
	})
}

// P8.1, R2, P1: a length that may not be, or a number that is no place of it, is told, and beside that is nothing.
func TestBitsErrArg(t *testing.T) {
	refused := func(i, log int) {
		t.Helper()
		if f, e := flip.Bits(i, log); f != 0 || e != api.ErrArg {
			t.Errorf("Bits of %d of 2^%d is %d, error %d", i, log, f, e)
		}
	}
	each(func(log, n int) {
		for d := range 2 * n {
			refused(n+d, log)
			refused(-1-d, log)
		}
		for _, i := range extremes {
			refused(i, log)
		}
	})
	for _, log := range wrongLogs {
		for i := range 3 {
			refused(i, log)
		}
		refused(-1, log)
		for _, i := range extremes {
			refused(i, log)
		}
	}
}

// P8.1, R2, P1: so is a length that may not be, of all its places.
func TestRowErrArg(t *testing.T) {
	for _, log := range wrongLogs {
		if all, e := flip.Row(log); len(all) != 0 || e != api.ErrArg {
			t.Errorf("Row of 2^%d is %v, error %d", log, all, e)
		}
	}
}

// P8.2: a length's log.
func TestLog(t *testing.T) {
	for n, want := range map[int]int{4: 2, 8: 3, 16: 4, 32: 5, 64: 6} {
		if log, e := flip.Log(n); log != want || e != api.OK {
			t.Errorf("Log of %d is %d, error %d", n, log, e)
		}
	}
}

// P8.2, R2, P1: any other number is no length, and beside that is nothing.
func TestLogErrSize(t *testing.T) {
	refused := func(n int) {
		t.Helper()
		if log, e := flip.Log(n); log != 0 || e != api.ErrSize {
			t.Errorf("Log of %d is %d, error %d", n, log, e)
		}
	}
	lengths := []int{4, 8, 16, 32, 64}
	for n := -manyNumbers; n <= manyNumbers; n++ {
		if !slices.Contains(lengths, n) {
			refused(n)
		}
	}
	for j := maxLog + 1; j < 63; j++ {
		refused(1 << j)
		refused(-1 << j)
	}
	for _, n := range lengths {
		refused(n + 1<<32)
		refused(n + math.MinInt)
	}
	for _, n := range extremes {
		refused(n)
	}
}

// P8.2: numbers by hand.
func TestFlipByHand(t *testing.T) {
	x := []api.Cx{{Re: 1}, {Re: 2, Im: 20}, {Im: 30}, {Re: -4, Im: -40}}
	if y, want := flipped(t, x), []api.Cx{{Re: 1}, {Im: 30}, {Re: 2, Im: 20}, {Re: -4, Im: -40}}; !slices.Equal(y, want) {
		t.Errorf("%v, flipped, are %v, not %v", x, y, want)
	}
	x = []api.Cx{{Re: 10}, {Re: 11}, {Re: 12}, {Re: 13}, {Re: 14}, {Re: 15}, {Re: 16}, {Re: 17}}
	if y, want := flipped(t, x), []api.Cx{{Re: 10}, {Re: 14}, {Re: 12}, {Re: 16}, {Re: 11}, {Re: 15}, {Re: 13}, {Re: 17}}; !slices.Equal(y, want) {
		t.Errorf("%v, flipped, are %v, not %v", x, y, want)
	}
}

// P8.2: of each place the number of the place flipped, whatever the numbers are.
func TestFlipByPlaces(t *testing.T) {
	each(func(log, n int) {
		x := numbers(n)
		for k, z := range flipped(t, x) {
			if want := x[rows[log][k]]; z != want {
				t.Errorf("number %d of %d, flipped, is %v, not %v", k, n, z, want)
			}
		}
		same := slices.Repeat([]api.Cx{{Re: 7, Im: math.MinInt}}, n)
		if y := flipped(t, same); !slices.Equal(y, same) {
			t.Errorf("%d numbers that are all the same, flipped, are %v", n, y)
		}
	})
}

// P8.2, R2, R3, P1: as many numbers as are no length are told, and beside that is nothing; a nil list is an empty one.
func TestFlipErrSize(t *testing.T) {
	refused := func(x []api.Cx) {
		t.Helper()
		if y, e := flip.Flip(x); len(y) != 0 || e != api.ErrSize {
			t.Errorf("Flip of %d numbers: %d numbers, error %d", len(x), len(y), e)
		}
	}
	refused(nil)
	for n := range manyNumbers {
		if !slices.Contains([]int{4, 8, 16, 32, 64}, n) {
			refused(numbers(n))
		}
	}
	for _, n := range []int{128, 256, 1024, 1 << 16, 1<<16 + 4} {
		refused(numbers(n))
	}
	// What lies behind a list's end is none of its numbers.
	refused(numbers(64)[:3])
	refused(numbers(64)[:0])
}

// P8.3: flipped twice is as it was.
func TestFlippedTwice(t *testing.T) {
	each(func(log, n int) {
		for i := range n {
			if f := bits(t, bits(t, i, log), log); f != i {
				t.Errorf("%d of 2^%d, flipped twice, is %d", i, log, f)
			}
		}
		x := numbers(n)
		if y := flipped(t, flipped(t, x)); !slices.Equal(y, x) {
			t.Errorf("%v, flipped twice, are %v", x, y)
		}
	})
}

// P8.3: no two are flipped to one.
func TestNoTwoToOne(t *testing.T) {
	each(func(log, n int) {
		all := row(t, log)
		slices.Sort(all)
		for i, f := range all {
			if f != i {
				t.Fatalf("the places of 2^%d, flipped and sorted, are %v", log, all)
			}
		}
	})
}

// P8.3: the first half of the places flipped are even, and, halved, those of half the length.
func TestFirstHalf(t *testing.T) {
	each(func(log, n int) {
		half := row(t, log)[:n/2]
		for i, f := range half {
			if f%2 != 0 {
				t.Errorf("place %d of 2^%d, flipped, is %d", i, log, f)
			}
			half[i] = f / 2
		}
		// Half of the least length is none, but its places are known.
		want := []int{0, 1}
		if log > minLog {
			want = row(t, log-1)
		}
		if !slices.Equal(half, want) {
			t.Errorf("half the places of 2^%d, flipped and halved, are %v, not %v", log, half, want)
		}
	})
}

// R4, and the language's rule 7: numbers handed in stay as they were, and those answered are apart from them.
func TestNumbersStay(t *testing.T) {
	each(func(_, n int) {
		behind := numbers(n + 8)
		x, was := behind[:n], slices.Clone(behind)
		y := flipped(t, x)
		if !slices.Equal(behind, was) {
			t.Errorf("Flip of %d numbers changed them: %v", n, behind)
		}
		clear(y[:cap(y)])
		if !slices.Equal(behind, was) {
			t.Errorf("%d numbers, flipped, share with those handed in", n)
		}
		if _, e := flip.Flip(behind[:n+1]); e != api.ErrSize || !slices.Equal(behind, was) {
			t.Errorf("Flip of %d numbers: error %d, %v", n+1, e, behind)
		}
	})
}

// R1: a call tells the same, whatever was called ahead of it, and whatever was done with what it told.
func TestNothingIsKept(t *testing.T) {
	x := numbers(16)
	each(func(log, n int) {
		first := row(t, log)
		was := slices.Clone(first)
		clear(first)
		if again := row(t, log); !slices.Equal(again, was) {
			t.Errorf("Row of 2^%d is first %v, then %v", log, was, again)
		}
	})
	first := flipped(t, x)
	was := slices.Clone(first)
	clear(first)
	if _, e := flip.Flip(x[:5]); e != api.ErrSize {
		t.Errorf("Flip of 5 numbers: error %d", e)
	}
	if again := flipped(t, x); !slices.Equal(again, was) {
		t.Errorf("%v, flipped, are first %v, then %v", x, was, again)
	}
	for range 2 {
		if log, e := flip.Log(32); log != 5 || e != api.OK {
			t.Errorf("Log of 32 is %d, error %d", log, e)
		}
		if log, e := flip.Log(33); log != 0 || e != api.ErrSize {
			t.Errorf("Log of 33 is %d, error %d", log, e)
		}
	}
}
