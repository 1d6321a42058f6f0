package window_test

import (
	"math"
	"slices"
	"testing"

	"headroom/api"
	"headroom/window"
)

// What is next to all that may be, and far from it.
var (
	wrongKinds   = append([]int{-1, -2, -3, -4, kinds, kinds + 1, 6, 7, 8, 255, 256, 257, 258, 259, 1<<16 + 1}, extremes...)
	wrongLogs    = append([]int{-1, -2, -6, 0, 1, maxLog + 1, maxLog + 2, 12, 31, 32, 61, 62, 63, 64, 65, 66, 258, 262}, extremes...)
	wrongBits    = append([]int{-1, -2, -16, -40, maxBits + 1, maxBits + 2, 55, 56, 57, 63, 64, 65, 256, 256 + 13}, extremes...)
	wrongFormats = append([]int{-1, -2, 2, 3, 13, 15, 29, 31, 256, 257}, extremes...)
	wrongModes   = append([]int{-1, -2, 3, 4, 255, 256, 257, 258}, extremes...)
)

// wrongNumbers are no mantissas of a format.
func wrongNumbers(format int) []int {
	one := 1 << bitsOf(format)
	return append([]int{one, one + 1, -one - 1, -one - 2, 2 * one, -2 * one, 1<<31 + 1, -1<<31 - 1}, extremes...)
}

// refused holds the error that Table and Sum tell against ErrArg; beside it is nothing.
func refused(t *testing.T, kind, log, bits int) {
	t.Helper()
	if w, e := window.Table(kind, log, bits); len(w) != 0 || e != api.ErrArg {
		t.Errorf("Table of kind %d, 2^%d in %d bits is %v, error %d", kind, log, bits, w, e)
	}
	if all, e := window.Sum(kind, log, bits); all != 0 || e != api.ErrArg {
		t.Errorf("Sum of kind %d, 2^%d in %d bits is %d, error %d", kind, log, bits, all, e)
	}
}

// applyRefused holds the error that Apply tells against what it is to be; beside it is nothing.
func applyRefused(t *testing.T, x []int, s settings, want api.Errno) {
	t.Helper()
	if y, e := window.Apply(x, s.kind, s.format, s.mode); len(y) != 0 || e != want {
		t.Errorf("%d numbers weighed by %v are %v, error %d, not %d", len(x), s, y, e, want)
	}
}

// P19.1, R2, P1: a kind, a length or bits that may not be are told, each alone and with others.
func TestErrArg(t *testing.T) {
	for _, kind := range wrongKinds {
		for log := minLog; log <= maxLog; log++ {
			for bits := range maxBits + 1 {
				refused(t, kind, log, bits)
			}
		}
		for _, log := range wrongLogs {
			for _, bits := range wrongBits {
				refused(t, kind, log, bits)
			}
		}
	}
	for kind := range kinds {
		for _, log := range wrongLogs {
			for bits := range maxBits + 1 {
				refused(t, kind, log, bits)
			}
			for _, bits := range wrongBits {
				refused(t, kind, log, bits)
			}
		}
		for _, bits := range wrongBits {
			for log := minLog; log <= maxLog; log++ {
				refused(t, kind, log, bits)
			}
		}
	}
}

// P19.2, R2, R3, P1: numbers that are no length are told, ahead of all that is wrong beside it.
func TestApplyErrSize(t *testing.T) {
	lists := [][]int{nil, {}, {math.MinInt}, make([]int, 1<<16), make([]int, 1<<16+8)}
	for n := range 300 {
		if n != 4 && n != 8 && n != 16 && n != 32 && n != 64 {
			lists = append(lists, make([]int, n), slices.Repeat([]int{math.MaxInt}, n))
		}
	}
	for _, x := range lists {
		for kind := range kinds {
			applyRefused(t, x, settings{kind, api.F31, api.MUp}, api.ErrSize)
		}
		for _, wrong := range extremes {
			applyRefused(t, x, settings{wrong, api.F15, api.MUp}, api.ErrSize)
			applyRefused(t, x, settings{api.WHann, wrong, api.MUp}, api.ErrSize)
			applyRefused(t, x, settings{api.WHann, api.F15, wrong}, api.ErrSize)
			applyRefused(t, x, settings{wrong, wrong, wrong}, api.ErrSize)
		}
	}
}

// P19.2, R2, P1: so is a kind, a format or a mode that is none, ahead of a number that is no mantissa.
func TestApplyErrArg(t *testing.T) {
	var wrong []settings
	for _, kind := range wrongKinds {
		wrong = append(wrong, settings{kind, api.F15, api.MUp}, settings{kind, api.F31, api.MFloor}, settings{kind, kind, kind})
	}
	for kind := range kinds {
		for _, format := range wrongFormats {
			wrong = append(wrong, settings{kind, format, api.MEven}, settings{kind, format, 3})
		}
		for _, mode := range wrongModes {
			wrong = append(wrong, settings{kind, api.F15, mode}, settings{kind, api.F31, mode})
		}
	}
	for _, s := range wrong {
		for log := minLog; log <= maxLog; log++ {
			n := 1 << log
			applyRefused(t, make([]int, n), s, api.ErrArg)
			applyRefused(t, slices.Repeat([]int{math.MaxInt}, n), s, api.ErrArg)
			applyRefused(t, slices.Repeat([]int{-1 << 31}, n), s, api.ErrArg)
		}
	}
}

// P19.2, R2, P1: so is a number that is no mantissa, whichever it is, by each window; both ends are mantissas.
func TestApplyErrRange(t *testing.T) {
	t.Parallel()
	eachSetting(func(log int, s settings) {
		n := 1 << log
		x := edges(n, log, s.format)
		apply(t, x, s)
		for place := range x {
			for i, part := range wrongNumbers(s.format) {
				// Kinds and modes take turns at the numbers, so that each place has each number once or more.
				if (i+place+s.kind+s.mode)%6 != 0 {
					continue
				}
				other := slices.Clone(x)
				other[place] = part
				applyRefused(t, other, s, api.ErrRange)
			}
		}
		applyRefused(t, slices.Repeat([]int{math.MinInt}, n), s, api.ErrRange)
		applyRefused(t, slices.Repeat([]int{1 << bitsOf(s.format)}, n), s, api.ErrRange)
	})
}
