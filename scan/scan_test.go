package scan_test

import (
	"math"
	"math/big"
	"slices"
	"testing"

	"headroom/api"
	"headroom/scan"
)

// The edges that the document names: of parts, of shifts either way, and of what is put up.
const (
	farthest  = 1 << 31
	mostShift = 62
	mostUp    = 1 << 62
)

// modes and formats are all that there are, and formatBits those of each format.
var (
	modes      = []int{api.MFloor, api.MUp, api.MEven}
	formats    = []int{api.F15, api.F31}
	formatBits = map[int]int{api.F15: 15, api.F31: 31}
)

// extremes are numbers that are far from all that may be.
var extremes = []int{math.MinInt, math.MinInt + 1, -1 << 62, -1 << 33, 1 << 33, 1<<32 + 1<<14, 1 << 61, 1 << 62, math.MaxInt - 1, math.MaxInt}

// The others are next to those that may be, and far from them.
var (
	wrongModes   = append([]int{-1, 3, 4, 256}, extremes...)
	wrongFormats = append([]int{-1, 2, 3, 15, 31, 256}, extremes...)
	wrongKernels = append([]int{-4, -2, -1, 0, 1, 3, 5, 6, 8, 256 + 2, 256 + 4}, extremes...)
	wrongShifts  = append([]int{-63, 63, -64, 64, -65, 65, -128, 128, 256 + 1}, extremes...)
	wrongParts   = append([]int{farthest + 1, -farthest - 1, farthest + 2, -farthest - 2, 1 << 32, -1 << 32}, extremes...)
)

// parts are near 0, near the powers of 2, and at both ends of those that may be asked how great they are.
func parts() []int {
	all := []int{0, 1, -1, 2, -2, 3, -3, 5, -5, 7, -7}
	for k := 4; k <= 31; k++ {
		for _, p := range []int{1<<k - 1, 1 << k, 1<<k + 1, 1<<k | 1<<(k-1)} {
			if p <= farthest {
				all = append(all, p, -p)
			}
		}
	}
	return all
}

// samples are such parts, and others up to both ends of 64 bits.
func samples() []int {
	all := parts()
	for k := 32; k < 63; k++ {
		for _, p := range []int{1<<k - 1, 1 << k, 1<<k + 1, 1<<k | 1<<(k-1)} {
			all = append(all, p, -p)
		}
	}
	for d := range 4 {
		all = append(all, math.MinInt+d, math.MaxInt-d)
	}
	return all
}

// sizes are greatest parts that may be, of a format: all that there are of the smaller one.
func sizes(format int) []int {
	bits := formatBits[format]
	var all []int
	if format == api.F15 {
		for m := range 1<<bits + 1 {
			all = append(all, m)
		}
		return all
	}
	for m := range 1 << 12 {
		all = append(all, m, 1<<bits-m)
	}
	for k := 12; k < bits; k++ {
		for d := -3; d <= 3; d++ {
			all = append(all, 1<<k+d, 1<<k|1<<(k-1)+d)
		}
	}
	return all
}

// wrongSizes are greatest parts that may not be, of a format.
func wrongSizes(format int) []int {
	top := 1 << formatBits[format]
	return append([]int{-1, -2, -top, top + 1, top + 2, 2 * top, 2*top + 1}, extremes...)
}

func greatest(t *testing.T, x []api.Cx) int {
	t.Helper()
	m, e := scan.Max(x)
	if e != api.OK {
		t.Fatalf("Max of %v: error %d", x, e)
	}
	return m
}

func room(t *testing.T, m, format int) int {
	t.Helper()
	s, e := scan.Room(m, format)
	if e != api.OK {
		t.Fatalf("Room(%d, %d): error %d", m, format, e)
	}
	return s
}

func pre(t *testing.T, kernel, m, format int) int {
	t.Helper()
	s, e := scan.Pre(kernel, m, format)
	if e != api.OK {
		t.Fatalf("Pre(%d, %d, %d): error %d", kernel, m, format, e)
	}
	return s
}

func shifted(t *testing.T, x []api.Cx, s, mode int) []api.Cx {
	t.Helper()
	y, e := scan.Shifted(x, s, mode)
	if e != api.OK || len(y) != len(x) {
		t.Fatalf("Shifted of %d numbers, %d, %d: %d numbers, error %d", len(x), s, mode, len(y), e)
	}
	return y
}

// P9.1: greatest parts by hand.
func TestMaxByHand(t *testing.T) {
	for _, c := range []struct {
		x    []api.Cx
		want int
	}{
		{nil, 0},
		{[]api.Cx{}, 0},
		{[]api.Cx{{}}, 0},
		{[]api.Cx{{}, {}, {}, {}}, 0},
		{[]api.Cx{{Re: 3, Im: 4}}, 4},
		{[]api.Cx{{Re: 4, Im: 3}}, 4},
		{[]api.Cx{{Re: -5, Im: 4}}, 5},
		{[]api.Cx{{Re: 4, Im: -5}}, 5},
		{[]api.Cx{{Re: -7, Im: -6}}, 7},
		{[]api.Cx{{Re: 1}, {Im: -1}, {Re: -1}}, 1},
		{[]api.Cx{{Re: 1, Im: 2}, {Re: 3, Im: -40}, {Re: 5, Im: 6}}, 40},
		{[]api.Cx{{Re: -32768, Im: 32767}, {Re: 32767, Im: -32767}}, 32768},
		{[]api.Cx{{Re: farthest - 1, Im: 1 - farthest}}, farthest - 1},
		{[]api.Cx{{Re: farthest}, {Re: 1}}, farthest},
		{[]api.Cx{{Re: 1}, {Im: -farthest}}, farthest},
	} {
		if m := greatest(t, c.x); m != c.want {
			t.Errorf("Max of %v is %d, not %d", c.x, m, c.want)
		}
	}
}

// P9.1: wherever the greatest part is, with either sign, among any count of numbers, it is told without its sign.
func TestMaxInAnyPlace(t *testing.T) {
	for _, n := range []int{1, 2, 3, 4, 5, 63, 64, 65, 200} {
		for _, p := range []int{10, 1000, 32768, 1 << 30, farthest} {
			for k := range n {
				for _, far := range []api.Cx{{Re: p}, {Re: -p}, {Im: p}, {Im: -p}, {Re: -p, Im: p - 1}} {
					x := slices.Repeat([]api.Cx{{Re: 9, Im: -9}}, n)
					x[k] = far
					if m := greatest(t, x); m != p {
						t.Fatalf("Max of %d numbers, number %d of them %v, is %d", n, k, far, m)
					}
				}
			}
		}
	}
}

// P9.1: no part is greater, without its sign, and one is as great.
func TestMaxByWords(t *testing.T) {
	all := parts()
	for i, re := range all {
		for j, im := range all {
			x := []api.Cx{{Re: im, Im: re}, {Re: all[(i+j)%len(all)], Im: 1}}
			m := greatest(t, x)
			found := false
			for _, a := range x {
				for _, p := range []int{a.Re, a.Im} {
					found = found || p == m || p == -m
					if p > m || -p > m {
						t.Fatalf("Max of %v is %d", x, m)
					}
				}
			}
			if !found {
				t.Fatalf("Max of %v is %d, which none of them has", x, m)
			}
		}
	}
}

// P9.1, R2, P1: a part out of its range is told, wherever it is, and beside that is nothing.
func TestMaxErrRange(t *testing.T) {
	for _, p := range wrongParts {
		for _, n := range []int{1, 2, 7, 64, 100} {
			for k := range n {
				for _, wrong := range []api.Cx{{Re: p}, {Im: p}, {Re: p, Im: 1}, {Re: -5, Im: p}, {Re: p, Im: p}} {
					x := slices.Repeat([]api.Cx{{Re: farthest, Im: -farthest}}, n)
					x[k] = wrong
					if m, e := scan.Max(x); m != 0 || e != api.ErrRange {
						t.Fatalf("Max of %d numbers, number %d of them %v, is %d, error %d", n, k, wrong, m, e)
					}
				}
			}
		}
	}
}

// P9.1: rooms by hand; the first is the document's example.
func TestRoomByHand(t *testing.T) {
	for _, c := range []struct{ m, format, want int }{
		{1000, api.F15, 4},
		{0, api.F15, 0}, {1, api.F15, 14}, {2, api.F15, 13}, {3, api.F15, 12}, {4, api.F15, 12}, {5, api.F15, 11},
		{1024, api.F15, 4}, {1025, api.F15, 3}, {8191, api.F15, 1}, {8192, api.F15, 1}, {8193, api.F15, 0},
		{16383, api.F15, 0}, {16384, api.F15, 0}, {16385, api.F15, 0}, {32767, api.F15, 0}, {32768, api.F15, 0},
		{0, api.F31, 0}, {1, api.F31, 30}, {2, api.F31, 29}, {3, api.F31, 28}, {1000, api.F31, 20}, {32768, api.F31, 15},
		{1 << 29, api.F31, 1}, {1<<29 + 1, api.F31, 0}, {1 << 30, api.F31, 0}, {1<<30 + 1, api.F31, 0},
		{1<<31 - 1, api.F31, 0}, {1 << 31, api.F31, 0},
	} {
		if s := room(t, c.m, c.format); s != c.want {
			t.Errorf("Room(%d, %d) is %d, not %d", c.m, c.format, s, c.want)
		}
	}
}

// P9.1: by the room m is put up to 2^(B-1) at most, and by 1 more it would be beyond that; 0 has none, nor what is beyond it at once.
func TestRoomByWords(t *testing.T) {
	for _, format := range formats {
		half := 1 << (formatBits[format] - 1)
		for _, m := range sizes(format) {
			s := room(t, m, format)
			switch {
			case m == 0 || m > half:
				if s != 0 {
					t.Fatalf("Room(%d, %d) is %d", m, format, s)
				}
			case s < 0 || m<<s > half || m<<(s+1) <= half:
				t.Fatalf("Room(%d, %d) is %d", m, format, s)
			}
		}
	}
}

// P9.3: behind its room m is more than 2^(B-2), if it was not 0.
func TestBehindItsRoom(t *testing.T) {
	for _, format := range formats {
		quarter := 1 << (formatBits[format] - 2)
		for _, m := range sizes(format) {
			if s := room(t, m, format); m != 0 && m<<s <= quarter {
				t.Fatalf("Room(%d, %d) is %d: behind it %d is left", m, format, s, m<<s)
			}
		}
	}
}

// P9.1: passes' shifts by hand, on both sides of each edge.
func TestPreByHand(t *testing.T) {
	for _, c := range []struct{ kernel, format, m, want int }{
		{2, api.F15, 0, 0}, {2, api.F15, 1, 0}, {2, api.F15, 8191, 0}, {2, api.F15, 8192, 0},
		{2, api.F15, 8193, 1}, {2, api.F15, 16384, 1},
		{2, api.F15, 16385, 2}, {2, api.F15, 32767, 2}, {2, api.F15, 32768, 2},
		{4, api.F15, 0, 0}, {4, api.F15, 1, 0}, {4, api.F15, 4095, 0}, {4, api.F15, 4096, 0},
		{4, api.F15, 4097, 1}, {4, api.F15, 8192, 1},
		{4, api.F15, 8193, 2}, {4, api.F15, 16384, 2},
		{4, api.F15, 16385, 3}, {4, api.F15, 32767, 3}, {4, api.F15, 32768, 3},
		{2, api.F31, 0, 0}, {2, api.F31, 32768, 0}, {2, api.F31, 1 << 29, 0},
		{2, api.F31, 1<<29 + 1, 1}, {2, api.F31, 1 << 30, 1},
		{2, api.F31, 1<<30 + 1, 2}, {2, api.F31, 1 << 31, 2},
		{4, api.F31, 0, 0}, {4, api.F31, 32768, 0}, {4, api.F31, 1 << 28, 0},
		{4, api.F31, 1<<28 + 1, 1}, {4, api.F31, 1 << 29, 1},
		{4, api.F31, 1<<29 + 1, 2}, {4, api.F31, 1 << 30, 2},
		{4, api.F31, 1<<30 + 1, 3}, {4, api.F31, 1 << 31, 3},
	} {
		if s := pre(t, c.kernel, c.m, c.format); s != c.want {
			t.Errorf("Pre(%d, %d, %d) is %d, not %d", c.kernel, c.m, c.format, s, c.want)
		}
	}
}

// preByWords is a pass's shift as the document lists it.
func preByWords(kernel, m, bits int) int {
	switch {
	case kernel == 4 && m <= 1<<(bits-3):
		return 0
	case kernel == 4 && m <= 1<<(bits-2):
		return 1
	case kernel == 4 && m <= 1<<(bits-1):
		return 2
	case kernel == 4:
		return 3
	case m <= 1<<(bits-2):
		return 0
	case m <= 1<<(bits-1):
		return 1
	}
	return 2
}

// P9.1: passes' shifts, of all greatest parts of the smaller format.
func TestPreByWords(t *testing.T) {
	for _, format := range formats {
		for _, m := range sizes(format) {
			for _, kernel := range []int{2, 4} {
				if s, want := pre(t, kernel, m, format), preByWords(kernel, m, formatBits[format]); s != want {
					t.Fatalf("Pre(%d, %d, %d) is %d, not %d", kernel, m, format, s, want)
				}
			}
		}
	}
}

// P9.3: shifted down by a pass's shift numbers are not greater than a quarter (of kernel 4 an eighth) of 2^B, in each mode.
func TestBehindAPassesShift(t *testing.T) {
	for _, format := range formats {
		for kernel, most := range map[int]int{2: 1 << (formatBits[format] - 2), 4: 1 << (formatBits[format] - 3)} {
			for _, m := range sizes(format) {
				s := pre(t, kernel, m, format)
				for _, mode := range modes {
					if left := greatest(t, shifted(t, []api.Cx{{Re: m, Im: -m}}, s, mode)); left > most {
						t.Fatalf("Pre(%d, %d, %d) is %d: in mode %d %d is left", kernel, m, format, s, mode, left)
					}
				}
			}
		}
	}
}

// P9.1, R2, P1: a format or a kernel that is none is told, ahead of a greatest part out of its range, and beside that is nothing.
func TestRoomAndPreErrArg(t *testing.T) {
	ms := append([]int{0, 1, 1000, 32768, 32769, 1 << 31, 1<<31 + 1, -1}, extremes...)
	for _, m := range ms {
		for _, format := range wrongFormats {
			if s, e := scan.Room(m, format); s != 0 || e != api.ErrArg {
				t.Errorf("Room(%d, %d) is %d, error %d", m, format, s, e)
			}
			for _, kernel := range append([]int{2, 4}, wrongKernels...) {
				if s, e := scan.Pre(kernel, m, format); s != 0 || e != api.ErrArg {
					t.Errorf("Pre(%d, %d, %d) is %d, error %d", kernel, m, format, s, e)
				}
			}
		}
		for _, kernel := range wrongKernels {
			for _, format := range formats {
				if s, e := scan.Pre(kernel, m, format); s != 0 || e != api.ErrArg {
					t.Errorf("Pre(%d, %d, %d) is %d, error %d", kernel, m, format, s, e)
				}
			}
		}
	}
}

// P9.1, R2, P1: so is a greatest part out of its range, which is each format's own.
func TestRoomAndPreErrRange(t *testing.T) {
	for _, format := range formats {
		for _, m := range wrongSizes(format) {
			if s, e := scan.Room(m, format); s != 0 || e != api.ErrRange {
				t.Errorf("Room(%d, %d) is %d, error %d", m, format, s, e)
			}
			for _, kernel := range []int{2, 4} {
				if s, e := scan.Pre(kernel, m, format); s != 0 || e != api.ErrRange {
					t.Errorf("Pre(%d, %d, %d) is %d, error %d", kernel, m, format, s, e)
				}
			}
		}
	}
}

// P9.2: numbers shifted by hand, either way.
func TestShiftedByHand(t *testing.T) {
	x := []api.Cx{{Re: 3, Im: -3}, {Re: 5, Im: -5}, {Re: 0, Im: 6}}
	for _, c := range []struct {
		s, mode int
		want    []api.Cx
	}{
		{0, api.MFloor, x}, {0, api.MUp, x}, {0, api.MEven, x},
		{1, api.MFloor, []api.Cx{{Re: 1, Im: -2}, {Re: 2, Im: -3}, {Im: 3}}},
		{1, api.MUp, []api.Cx{{Re: 2, Im: -1}, {Re: 3, Im: -2}, {Im: 3}}},
		{1, api.MEven, []api.Cx{{Re: 2, Im: -2}, {Re: 2, Im: -2}, {Im: 3}}},
		{2, api.MFloor, []api.Cx{{Re: 0, Im: -1}, {Re: 1, Im: -2}, {Im: 1}}},
		{2, api.MUp, []api.Cx{{Re: 1, Im: -1}, {Re: 1, Im: -1}, {Im: 2}}},
		{2, api.MEven, []api.Cx{{Re: 1, Im: -1}, {Re: 1, Im: -1}, {Im: 2}}},
		{62, api.MFloor, []api.Cx{{Im: -1}, {Im: -1}, {}}},
		{62, api.MUp, []api.Cx{{}, {}, {}}},
		{-1, api.MFloor, []api.Cx{{Re: 6, Im: -6}, {Re: 10, Im: -10}, {Im: 12}}},
		{-1, api.MUp, []api.Cx{{Re: 6, Im: -6}, {Re: 10, Im: -10}, {Im: 12}}},
		{-4, api.MEven, []api.Cx{{Re: 48, Im: -48}, {Re: 80, Im: -80}, {Im: 96}}},
		{-59, api.MEven, []api.Cx{{Re: 3 << 59, Im: -3 << 59}, {Re: 5 << 59, Im: -5 << 59}, {Im: 6 << 59}}},
	} {
		if y := shifted(t, x, c.s, c.mode); !slices.Equal(y, c.want) {
			t.Errorf("%v shifted by %d, mode %d, are %v, not %v", x, c.s, c.mode, y, c.want)
		}
	}
	for _, mode := range modes {
		up := shifted(t, []api.Cx{{Re: 1, Im: -1}}, -mostShift, mode)
		if !slices.Equal(up, []api.Cx{{Re: mostUp, Im: -mostUp}}) {
			t.Errorf("1-i put up by 62 is %v", up)
		}
	}
}

// down is p divided by 2^s, rounded by how far the two whole numbers next to it are.
func down(p, s, mode int) int {
	unit := new(big.Int).Lsh(big.NewInt(1), uint(s))
	less, left := new(big.Int).DivMod(big.NewInt(int64(p)), unit, new(big.Int))
	lacking := new(big.Int).Sub(unit, left)
	n := int(less.Int64())
	switch {
	case mode == api.MFloor || left.Cmp(lacking) < 0:
		return n
	case left.Cmp(lacking) > 0 || mode == api.MUp || n%2 != 0:
		return n + 1
	}
	return n
}

// P9.2: each part shifted down, against numbers of any size; a part may be any then.
func TestShiftedDown(t *testing.T) {
	all := samples()
	x := make([]api.Cx, len(all))
	for k, p := range all {
		x[k] = api.Cx{Re: p, Im: all[len(all)-1-k]}
	}
	for s := range mostShift + 1 {
		for _, mode := range modes {
			for k, a := range shifted(t, x, s, mode) {
				if want := (api.Cx{Re: down(x[k].Re, s, mode), Im: down(x[k].Im, s, mode)}); a != want {
					t.Fatalf("%v shifted by %d, mode %d, is %v, not %v", x[k], s, mode, a, want)
				}
			}
		}
	}
}

// up is p times 2^s, and whether that is from -2^62 to 2^62.
func up(p, s int) (int, bool) {
	n := new(big.Int).Lsh(big.NewInt(int64(p)), uint(s))
	if n.CmpAbs(big.NewInt(mostUp)) > 0 {
		return 0, false
	}
	return int(n.Int64()), true
}

// P9.2, R2, P1: each part put up, in each mode; one that can't be is told, whichever it is, and beside that is nothing.
func TestShiftedUp(t *testing.T) {
	for s := 1; s <= mostShift; s++ {
		for _, p := range samples() {
			far, ok := up(p, s)
			for _, mode := range modes {
				re, e := scan.Shifted([]api.Cx{{Re: p}, {}}, -s, mode)
				im, f := scan.Shifted([]api.Cx{{}, {Im: p}}, -s, mode)
				switch {
				case !ok && (len(re) != 0 || e != api.ErrRange || len(im) != 0 || f != api.ErrRange):
					t.Fatalf("%d put up by %d, mode %d: %v, error %d; %v, error %d", p, s, mode, re, e, im, f)
				case ok && (e != api.OK || f != api.OK):
					t.Fatalf("%d put up by %d, mode %d: errors %d, %d", p, s, mode, e, f)
				case ok && !(slices.Equal(re, []api.Cx{{Re: far}, {}}) && slices.Equal(im, []api.Cx{{}, {Im: far}})):
					t.Fatalf("%d put up by %d, mode %d: %v, %v, not %d", p, s, mode, re, im, far)
				}
			}
		}
	}
}

// P9.2: both sides of the edge of what is put up, by hand, wherever the part is.
func TestShiftedErrRange(t *testing.T) {
	for _, n := range []int{1, 4, 9, 64, 100} {
		for k := range n {
			for _, far := range []api.Cx{{Re: 1<<31 + 1}, {Re: -1<<31 - 1}, {Im: 1<<31 + 1}, {Im: -1<<31 - 1}, {Re: math.MinInt}, {Im: math.MaxInt}} {
				x := slices.Repeat([]api.Cx{{Re: 1 << 31, Im: -1 << 31}}, n)
				if y := shifted(t, x, -31, api.MUp); !slices.Equal(y, slices.Repeat([]api.Cx{{Re: mostUp, Im: -mostUp}}, n)) {
					t.Fatalf("%v put up by 31 are %v", x, y)
				}
				x[k] = far
				if y, e := scan.Shifted(x, -31, api.MUp); len(y) != 0 || e != api.ErrRange {
					t.Fatalf("%d numbers, number %d of them %v, put up by 31: %v, error %d", n, k, far, y, e)
				}
			}
		}
	}
}

// P9.2, R2, R3, P1: a shift or a mode that may not be is told, of any numbers and of none, ahead of a part that can't be put up, and beside that is nothing.
func TestShiftedErrArg(t *testing.T) {
	for _, x := range [][]api.Cx{nil, {}, {{}}, {{Re: 3, Im: -3}}, {{}, {Re: math.MaxInt}}, {{Im: math.MinInt}, {}}} {
		refused := func(s, mode int) {
			t.Helper()
			if y, e := scan.Shifted(x, s, mode); len(y) != 0 || e != api.ErrArg {
				t.Errorf("%v shifted by %d, mode %d: %v, error %d", x, s, mode, y, e)
			}
		}
		for _, s := range wrongShifts {
			for _, mode := range append(modes[:len(modes):len(modes)], wrongModes...) {
				refused(s, mode)
			}
		}
		for s := -mostShift; s <= mostShift; s++ {
			for _, mode := range wrongModes {
				refused(s, mode)
			}
		}
	}
}

// P9.2, R3: of no numbers there are none, by any shift.
func TestShiftedOfNone(t *testing.T) {
	for s := -mostShift; s <= mostShift; s++ {
		for _, mode := range modes {
			shifted(t, nil, s, mode)
			shifted(t, []api.Cx{}, s, mode)
		}
	}
}

// P9.3: what is put up and shifted down again is as it was, in each mode.
func TestUpAndDownAgain(t *testing.T) {
	for s := range mostShift + 1 {
		for _, p := range samples() {
			if _, ok := up(p, s); !ok {
				continue
			}
			x := []api.Cx{{Re: p, Im: -p}, {Im: p}}
			for _, mode := range modes {
				for _, back := range modes {
					if y := shifted(t, shifted(t, x, -s, mode), s, back); !slices.Equal(y, x) {
						t.Fatalf("%v put up by %d and shifted down again, modes %d, %d, are %v", x, s, mode, back, y)
					}
				}
			}
		}
	}
}

// P9.1, P9.2, P9.3: numbers put up by their room are mantissas, and as great as half of 2^B at most.
func TestNumbersBehindTheirRoom(t *testing.T) {
	for _, format := range formats {
		half := 1 << (formatBits[format] - 1)
		for m := 1; m <= half; m = 2*m + m/3 {
			x := []api.Cx{{Re: -m / 2, Im: m / 3}, {Re: 1, Im: -m}}
			y := shifted(t, x, -room(t, greatest(t, x), format), api.MEven)
			if far := greatest(t, y); far > half || far <= half/2 {
				t.Errorf("%v, put up by their room, format %d, are %v", x, format, y)
			}
		}
	}
}

// R4, and the language's rule 7: numbers handed in stay as they were, and those answered are apart from them.
func TestNumbersStay(t *testing.T) {
	for _, s := range []int{-62, -2, 0, 1, 62} {
		behind := slices.Repeat([]api.Cx{{Re: 1, Im: -1}, {Im: 1}}, 9)
		x, was := behind[:7], slices.Clone(behind)
		y := shifted(t, x, s, api.MUp)
		greatest(t, x)
		clear(y[:cap(y)])
		if !slices.Equal(behind, was) {
			t.Errorf("numbers shifted by %d share with those handed in, or change them: %v", s, behind)
		}
	}
	x := []api.Cx{{Re: 5, Im: 6}, {Re: 7, Im: math.MaxInt}}
	was := slices.Clone(x)
	if _, e := scan.Shifted(x, -1, api.MUp); e != api.ErrRange || !slices.Equal(x, was) {
		t.Errorf("Shifted: error %d, %v", e, x)
	}
	if _, e := scan.Max(x); e != api.ErrRange || !slices.Equal(x, was) {
		t.Errorf("Max: error %d, %v", e, x)
	}
}

// R1: a call tells the same, whatever was called ahead of it, and whatever was done with what it told.
func TestNothingIsKept(t *testing.T) {
	x := []api.Cx{{Re: 1000, Im: -3}, {Re: 7}}
	want := []api.Cx{{Re: 500, Im: -1}, {Re: 4}}
	for range 3 {
		y := shifted(t, x, 1, api.MUp)
		if !slices.Equal(y, want) {
			t.Errorf("%v shifted by 1 are %v", x, y)
		}
		clear(y)
		if m := greatest(t, x); m != 1000 {
			t.Errorf("Max of %v is %d", x, m)
		}
		if m, e := scan.Max([]api.Cx{{Re: 1 << 40}}); m != 0 || e != api.ErrRange {
			t.Errorf("Max of 2^40 is %d, error %d", m, e)
		}
		if s := room(t, 1000, api.F15); s != 4 {
			t.Errorf("Room(1000, F15) is %d", s)
		}
		if s := room(t, 1000, api.F31); s != 20 {
			t.Errorf("Room(1000, F31) is %d", s)
		}
		if s := pre(t, 4, 32768, api.F15); s != 3 {
			t.Errorf("Pre(4, 32768, F15) is %d", s)
		}
		if s := pre(t, 2, 32768, api.F31); s != 0 {
			t.Errorf("Pre(2, 32768, F31) is %d", s)
		}
	}
}
