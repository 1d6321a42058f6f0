package power_test

import (
	"math/big"
	"slices"
	"testing"

	"headroom/api"
	"headroom/cx"
	"headroom/power"
)

// P20.1: the document's example, and squares by hand; the greatest is 2^63, without a sign.
func TestSpectrumByHand(t *testing.T) {
	for _, c := range []struct {
		x    []api.Cx
		want []uint64
	}{
		{[]api.Cx{{Re: 3, Im: 4}, {Re: 1}}, []uint64{25, 1}},
		{[]api.Cx{{Re: 1}, {Re: 3, Im: 4}}, []uint64{1, 25}},
		{[]api.Cx{{}}, []uint64{0}},
		{[]api.Cx{{Re: -5, Im: 12}, {Re: 5, Im: -12}, {Re: -12, Im: -5}}, []uint64{169, 169, 169}},
		{[]api.Cx{{Im: 7}, {}, {Re: -2}, {}}, []uint64{49, 0, 4, 0}},
		{[]api.Cx{{Re: most}, {Im: -most}, {Re: most, Im: most}, {Re: -most, Im: -most}}, []uint64{1 << 62, 1 << 62, 1 << 63, 1 << 63}},
		{[]api.Cx{{Re: most, Im: 1 - most}, {Re: most - 1}}, []uint64{1<<63 - 1<<32 + 1, 1<<62 - 1<<32 + 1}},
		{[]api.Cx{{Re: most, Im: 1}, {Re: -1, Im: -most}}, []uint64{1<<62 + 1, 1<<62 + 1}},
	} {
		if got := spectrum(t, c.x); !slices.Equal(got, c.want) {
			t.Errorf("Spectrum of %v is %v, not %v", c.x, got, c.want)
		}
	}
}

// P20.1: squares by the document's words, of numbers of all sizes.
func TestSpectrumByWords(t *testing.T) {
	for _, x := range samples() {
		if got, want := spectrum(t, x), spectrumByWords(x); !slices.Equal(got, want) {
			t.Errorf("Spectrum of %v is %v, not %v", x, got, want)
		}
	}
}

// P20.1: sums by hand, on both sides of where they carry over.
func TestTotalByHand(t *testing.T) {
	greatest, half := api.Cx{Re: most, Im: -most}, api.Cx{Im: most}
	for _, c := range []struct {
		x          []api.Cx
		over, left uint64
	}{
		{[]api.Cx{{Re: 3, Im: 4}, {Re: 1}}, 0, 26},
		{[]api.Cx{{}}, 0, 0},
		{[]api.Cx{{Im: 7}, {}, {Re: -2}, {}}, 0, 53},
		{[]api.Cx{greatest}, 0, 1 << 63},
		{[]api.Cx{greatest, half}, 0, 3 << 62},
		{[]api.Cx{greatest, {Re: most, Im: most - 1}}, 0, 1<<64 - 1<<32 + 1},
		{[]api.Cx{greatest, greatest}, 1, 0},
		{[]api.Cx{half, half, greatest}, 1, 0},
		{[]api.Cx{greatest, greatest, {Re: 1}}, 1, 1},
		{[]api.Cx{{Re: 1}, greatest, greatest}, 1, 1},
		{[]api.Cx{greatest, greatest, greatest}, 1, 1 << 63},
		{[]api.Cx{greatest, greatest, greatest, half}, 1, 3 << 62},
		{[]api.Cx{greatest, greatest, greatest, greatest, {Im: 5}}, 2, 25},
	} {
		if over, left, e := power.Total(c.x); over != c.over || left != c.left || e != api.OK {
			t.Errorf("Total of %v is %d, %d, error %d, not %d, %d", c.x, over, left, e, c.over, c.left)
		}
	}
}

// P20.1, R5: sums by the document's words, of numbers of all sizes.
func TestTotalByWords(t *testing.T) {
	for _, x := range samples() {
		if got, want := total(t, x), totalByWords(x); got.Cmp(want) != 0 {
			t.Errorf("Total of %v is %v, not %v", x, got, want)
		}
	}
}

// P20.1: numbers whose total is next to where it carries over, in either order.
func TestTotalCarriesOver(t *testing.T) {
	for _, over := range []int64{0, 1, 2, 3, 10, 255, 256, 257, 1000} {
		for away := int64(-40); away <= 40; away++ {
			want := new(big.Int).Lsh(big.NewInt(over), 64)
			if want.Add(want, big.NewInt(away)); want.Sign() < 0 {
				continue
			}
			x := ofTotal(want)
			back := slices.Clone(x)
			slices.Reverse(back)
			if got, again := total(t, x), total(t, back); got.Cmp(want) != 0 || again.Cmp(want) != 0 {
				t.Fatalf("Total of %v is %v, and from behind %v, not %v", x, got, again, want)
			}
		}
	}
}

// P20.1, P20.2: many numbers, as great as may be.
func TestManyNumbers(t *testing.T) {
	x := slices.Repeat([]api.Cx{{Re: -most, Im: most}}, 1<<18+1)
	if over, left, e := power.Total(x); over != 1<<17 || left != 1<<63 || e != api.OK {
		t.Errorf("Total is %d, %d, error %d", over, left, e)
	}
	for place, square := range spectrum(t, x) {
		if square != 1<<63 {
			t.Fatalf("square %d is %d", place, square)
		}
	}
	x[0] = api.Cx{Re: most, Im: most - 1}
	if place := peak(t, x); place != 1 {
		t.Errorf("Peak is %d", place)
	}
}

// P20.2: peaks by hand: of the greatest squares the first one's place.
func TestPeakByHand(t *testing.T) {
	for _, c := range []struct {
		x    []api.Cx
		want int
	}{
		{[]api.Cx{{Re: 3, Im: 4}, {Re: 1}}, 0},
		{[]api.Cx{{Re: 1}, {Re: 3, Im: 4}}, 1},
		{[]api.Cx{{}}, 0},
		{[]api.Cx{{}, {}, {}}, 0},
		{[]api.Cx{{}, {}, {Im: -1}}, 2},
		{[]api.Cx{{Re: 1}, {Re: -2}, {Im: 2}, {Re: 1, Im: 1}}, 1},
		// 5 has the square of 3+4i, and 7+i that of 5+5i: a greater part makes no greater square.
		{[]api.Cx{{Re: 4}, {Re: 3, Im: 4}, {Re: 5}, {Im: -5}, {Re: 2}}, 1},
		{[]api.Cx{{Re: 5, Im: 5}, {Re: 7, Im: 1}}, 0},
		{[]api.Cx{{Re: 7, Im: 1}, {Re: 5, Im: 5}}, 0},
		{[]api.Cx{{Re: 7}, {Re: 5, Im: 5}, {Re: -7, Im: -1}}, 1},
		// 2^63 is the greatest, though it is the least of all with a sign.
		{[]api.Cx{{Re: most, Im: most - 1}, {Re: most, Im: most}}, 1},
		{[]api.Cx{{Re: -most, Im: -most}, {Re: most, Im: most - 1}}, 0},
		{[]api.Cx{{}, {Re: -most, Im: most}, {Re: most, Im: most}}, 1},
		{[]api.Cx{{Re: most}, {Re: most, Im: 1}, {Re: most}}, 1},
	} {
		if got := peak(t, c.x); got != c.want {
			t.Errorf("Peak of %v is %d, not %d", c.x, got, c.want)
		}
	}
}

// P20.2: peaks by the document's words, of numbers of all sizes, and of such as often have the same squares.
func TestPeakByWords(t *testing.T) {
	lists := samples()
	for seed := range 300 {
		lists = append(lists, numbers(1+seed%9, seed, 2))
	}
	for _, x := range lists {
		if len(x) == 0 {
			continue
		}
		if got, want := peak(t, x), peakByWords(x); got != want {
			t.Errorf("Peak of %v is %d, not %d", x, got, want)
		}
	}
}

// P20.2: the greatest number at each place, alone and once more behind it.
func TestPeakAtEachPlace(t *testing.T) {
	for _, n := range []int{1, 2, 3, 8, 65} {
		for _, great := range grid(0, 10, most-1, most) {
			if great == (api.Cx{}) {
				continue
			}
			for place := range n {
				x := numbers(n, n, 6)
				x[place] = great
				if got := peak(t, x); got != place {
					t.Fatalf("Peak of %v is %d, not %d", x, got, place)
				}
				for other := place + 1; other < n; other++ {
					x[other] = api.Cx{Re: -great.Im, Im: great.Re}
					if got := peak(t, x); got != place {
						t.Fatalf("Peak of %v is %d, not %d", x, got, place)
					}
				}
			}
		}
	}
}

// each are numbers, each changed by a call that must have no error.
func each(t *testing.T, x []api.Cx, change func(a api.Cx) (api.Cx, api.Errno)) []api.Cx {
	t.Helper()
	y := make([]api.Cx, len(x))
	for j, a := range x {
		b, e := change(a)
		if e != api.OK {
			t.Fatalf("%v: error %d", a, e)
		}
		y[j] = b
	}
	return y
}

// P20.3: turned numbers, and conjugates, have the same squares.
func TestTurnedAndConjugatesHaveTheSame(t *testing.T) {
	for _, x := range samples() {
		others := [][]api.Cx{each(t, x, cx.Conj)}
		for n := -5; n <= 5; n++ {
			others = append(others, each(t, x, func(a api.Cx) (api.Cx, api.Errno) { return cx.Turn(a, n) }))
		}
		squares, all := spectrum(t, x), total(t, x)
		for _, y := range others {
			if got := spectrum(t, y); !slices.Equal(got, squares) || total(t, y).Cmp(all) != 0 {
				t.Errorf("Spectrum of %v is %v, and that of %v is %v", x, squares, y, got)
			}
			if len(x) > 0 && peak(t, x) != peak(t, y) {
				t.Errorf("Peak of %v is not that of %v", x, y)
			}
		}
	}
}

// P20.3: the total is that of two parts of the numbers together, wherever they are parted.
func TestTotalOfTwoParts(t *testing.T) {
	for _, x := range samples() {
		all := total(t, x)
		for place := range len(x) + 1 {
			first, second := total(t, x[:place]), total(t, x[place:])
			if first.Add(first, second).Cmp(all) != 0 {
				t.Errorf("Total of %v is %v, and that of both parts %v", x, all, first)
			}
		}
	}
}

// P20.3: so it is of the numbers of even places and of odd ones, and the total is that of the spectrum.
func TestTotalOfEvenAndOdd(t *testing.T) {
	for _, x := range samples() {
		var parted [2][]api.Cx
		for place, a := range x {
			parted[place%2] = append(parted[place%2], a)
		}
		squares := new(big.Int)
		for _, square := range spectrum(t, x) {
			squares.Add(squares, new(big.Int).SetUint64(square))
		}
		both := total(t, parted[0])
		both.Add(both, total(t, parted[1]))
		if all := total(t, x); both.Cmp(all) != 0 || squares.Cmp(all) != 0 {
			t.Errorf("Total of %v is %v, and that of even and odd places %v, of squares %v", x, all, both, squares)
		}
	}
}

// P20.3: of sums and differences of two numbers the total is twice theirs.
func TestTotalOfSumsAndDifferences(t *testing.T) {
	pairs := grid(0, 1, 7, 1<<30-1, 1<<30)
	pairs = append(pairs, numbers(60, 3, 1<<30)...)
	for _, a := range pairs {
		for _, b := range pairs {
			holdTwice(t, a, b)
		}
	}
	for _, c := range [][2]api.Cx{
		{{Re: most}, {Im: most}}, {{Re: most, Im: -most}, {}}, {{}, {Re: -most, Im: -most}}, {{Re: most - 5, Im: 1}, {Re: -5, Im: 1 - most}},
	} {
		holdTwice(t, c[0], c[1])
	}
}

// holdTwice holds the total of the sum and the difference of two numbers against twice theirs.
func holdTwice(t *testing.T, a, b api.Cx) {
	t.Helper()
	sum, e := cx.Sum(a, b)
	less, f := cx.Less(a, b)
	if e != api.OK || f != api.OK {
		t.Fatalf("%v, %v: errors %d, %d", a, b, e, f)
	}
	twice := total(t, []api.Cx{a, b})
	twice.Lsh(twice, 1)
	if got := total(t, []api.Cx{sum, less}); got.Cmp(twice) != 0 {
		t.Fatalf("Total of %v and %v is %v, and twice that of %v and %v is %v", sum, less, got, a, b, twice)
	}
}

// R4, and the language's rule 7: what is handed in stays as it was, also behind its end, and what is answered is new.
func TestNumbersStay(t *testing.T) {
	for n := range 70 {
		x := numbers(n+8, n, most)
		was := slices.Clone(x)
		squares := spectrum(t, x[:n])
		total(t, x[:n])
		if n > 0 {
			peak(t, x[:n])
		}
		for place := range squares {
			squares[place] = 77
		}
		_ = append(squares, 77)
		if !slices.Equal(x, was) {
			t.Fatalf("of %d numbers some are changed", n)
		}
	}
}

// R1: a call tells the same, whatever was called ahead of it, and what is done with its answer.
func TestNothingIsKept(t *testing.T) {
	for _, x := range samples() {
		if len(x) == 0 {
			continue
		}
		squares, all, place := spectrum(t, x), total(t, x), peak(t, x)
		was := slices.Clone(squares)
		for k := range squares {
			squares[k] = 77
		}
		other := numbers(90, 5, most)
		spectrum(t, other)
		total(t, other)
		peak(t, other)
		refused(t, []api.Cx{{Re: most + 1}})
		if !slices.Equal(spectrum(t, x), was) || total(t, x).Cmp(all) != 0 || peak(t, x) != place {
			t.Errorf("of %v is not told the same again", x)
		}
	}
}
