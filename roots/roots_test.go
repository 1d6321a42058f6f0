package roots_test

import (
	"math"
	"math/big"
	"slices"
	"testing"

	"headroom/api"
	"headroom/circle"
	"headroom/cx"
	"headroom/roots"
)

// The edges that the document names: of lengths, of bits, of the bits of which products are told, and how near these come, in 2^bits.
const (
	minLog      = 2
	maxLog      = 6
	maxBits     = 40
	leastBits   = 12
	greatBits   = 30
	nearProduct = 4
)

// nearCircle is how far a part may be from where the circle has it: a half for its rounding, and what a point of so many bits is off by.
const nearCircle = 0.5 + 0.25

// extremes are numbers that are far from all that may be.
var extremes = []int{math.MinInt, math.MinInt + 1, -1 << 62, -1 << 32, 1 << 32, 1 << 62, math.MaxInt - 1, math.MaxInt}

// What is next to all that may be, and far from it.
var (
	wrongLogs    = append([]int{-1, -2, -6, 0, 1, maxLog + 1, maxLog + 2, 12, 31, 32, 61, 62, 63, 64, 65, 66, 258, 262}, extremes...)
	wrongBits    = append([]int{-1, -2, -16, -40, maxBits + 1, maxBits + 2, 55, 56, 57, 63, 64, 65, 256, 256 + 13}, extremes...)
	wrongFormats = append([]int{-1, -2, 2, 3, 13, 15, 29, 31, 256, 257}, extremes...)
)

// each goes through all lengths and all bits that may be.
func each(do func(log, bits int)) {
	for log := minLog; log <= maxLog; log++ {
		for bits := range maxBits + 1 {
			do(log, bits)
		}
	}
}

func root(t *testing.T, log, k, bits int) api.Cx {
	t.Helper()
	z, e := roots.Root(log, k, bits)
	if e != api.OK {
		t.Fatalf("Root %d of 2^%d in %d bits: error %d", k, log, bits, e)
	}
	return z
}

func table(t *testing.T, log, bits int) []api.Cx {
	t.Helper()
	all, e := roots.Table(log, bits)
	if e != api.OK || len(all) != 1<<log {
		t.Fatalf("Table of 2^%d in %d bits: %d roots, error %d", log, bits, len(all), e)
	}
	return all
}

// place is what is left of k, divided by n, 0 or more.
func place(k, n int) int {
	return int(new(big.Int).Mod(big.NewInt(int64(k)), big.NewInt(int64(n))).Int64())
}

// nearest is x divided by 2^s, to the nearest whole number, a half up: the greatest that is not more than the quotient and a half.
func nearest(x, s int) int {
	twice := new(big.Int).Lsh(big.NewInt(int64(x)), 1)
	twice.Add(twice, new(big.Int).Lsh(big.NewInt(1), uint(s)))
	divisor := new(big.Int).Lsh(big.NewInt(1), uint(s+1))
	// Div leaves 0 or more, of divisors above 0: so it rounds down.
	return int(new(big.Int).Div(twice, divisor).Int64())
}

// byWords is the root by the document's words, one by one.
func byWords(t *testing.T, log, k, bits int) api.Cx {
	t.Helper()
	n := 1 << log
	r := place(k, n)
	q, u := 4*r/n, 4*r%n
	eighth := func(k int) api.Cx {
		p, e := circle.Eighth(k, log)
		if e != api.OK {
			t.Fatalf("Eighth %d of 2^%d: error %d", k, log, e)
		}
		return p
	}
	var p api.Cx
	if 2*u < n {
		p = eighth(2 * u)
	} else if 2*u > n {
		ahead := eighth(2 * (n - u))
		p.Re, p.Im = ahead.Im, ahead.Re
	} else {
		p.Re, p.Im = eighth(n).Re, eighth(n).Re
	}
	p.Re, p.Im = nearest(p.Re, 56-bits), nearest(p.Im, 56-bits)
	turned := []api.Cx{p, {Re: -p.Im, Im: p.Re}, {Re: -p.Re, Im: -p.Im}, {Re: p.Im, Im: -p.Re}}[q]
	return api.Cx{Re: turned.Re, Im: -turned.Im}
}

// P7.1: the document's example.
func TestRootOfTheExample(t *testing.T) {
	if z := root(t, 2, 1, 13); z != (api.Cx{Re: 0, Im: -8192}) {
		t.Errorf("Root 1 of 4 in 13 bits is %v", z)
	}
}

// P7.1: roots that a program apart from this one found by the document's words, from the series on.
func TestRootsByHand(t *testing.T) {
	for _, c := range []struct {
		log, k, bits int
		want         api.Cx
	}{
		{2, 0, 0, api.Cx{Re: 1, Im: 0}},
		{2, 3, 40, api.Cx{Re: 0, Im: 1 << 40}},
		{3, 1, 0, api.Cx{Re: 1, Im: -1}},
		{3, 1, 13, api.Cx{Re: 5793, Im: -5793}},
		{3, 1, 29, api.Cx{Re: 379625062, Im: -379625062}},
		{3, 5, 40, api.Cx{Re: -777472127994, Im: 777472127994}},
		{4, 1, 13, api.Cx{Re: 7568, Im: -3135}},
		{4, 3, 29, api.Cx{Re: 205451603, Im: -496004047}},
		{5, 7, 1, api.Cx{Re: 0, Im: -2}},
		{5, 1, 40, api.Cx{Re: 1078384820155, Im: -214504077523}},
		{6, 1, 13, api.Cx{Re: 8153, Im: -803}},
		{6, 1, 29, api.Cx{Re: 534285732, Im: -52622552}},
		{6, 1, 40, api.Cx{Re: 1094217178761, Im: -107770985514}},
		{6, 7, 13, api.Cx{Re: 6333, Im: -5197}},
		{6, 9, 40, api.Cx{Re: 697522792521, Im: -849933981865}},
		{6, 23, 29, api.Cx{Re: -340587301, Im: -415006827}},
		{6, 33, 40, api.Cx{Re: -1094217178761, Im: 107770985514}},
		{6, 47, 30, api.Cx{Re: -105245103, Im: 1068571464}},
		{6, 63, 12, api.Cx{Re: 4076, Im: 401}},
		{6, -1, 13, api.Cx{Re: 8153, Im: 803}},
		{6, 1000003, 13, api.Cx{Re: 7839, Im: -2378}},
	} {
		if z := root(t, c.log, c.k, c.bits); z != c.want {
			t.Errorf("Root %d of 2^%d in %d bits is %v, not %v", c.k, c.log, c.bits, z, c.want)
		}
	}
}

// P7.1: all roots that there are, by the document's words.
func TestRootsByWords(t *testing.T) {
	each(func(log, bits int) {
		for k := range 1 << log {
			if z, want := root(t, log, k, bits), byWords(t, log, k, bits); z != want {
				t.Errorf("Root %d of 2^%d in %d bits is %v, not %v", k, log, bits, z, want)
			}
		}
	})
}

// P7.1: roots lie where the circle has them, and go round it as the negative angles do.
func TestRootsLieOnTheCircle(t *testing.T) {
	each(func(log, bits int) {
		n, one := 1<<log, float64(int(1)<<bits)
		for k := range n {
			im, re := math.Sincos(-2 * math.Pi * float64(k) / float64(n))
			z := root(t, log, k, bits)
			if math.Abs(float64(z.Re)-re*one) > nearCircle || math.Abs(float64(z.Im)-im*one) > nearCircle {
				t.Errorf("Root %d of 2^%d in %d bits is %v, not near %f, %f", k, log, bits, z, re*one, im*one)
			}
		}
	})
}

// P7.1: any k may be: the root is that of what is left of it, divided by the length, 0 or more.
func TestRootsComeAgain(t *testing.T) {
	each(func(log, bits int) {
		n, all := 1<<log, table(t, log, bits)
		ks := slices.Clone(extremes)
		for k := -2*n - 1; k <= 3*n+1; k++ {
			ks = append(ks, k)
		}
		for d := range n {
			ks = append(ks, math.MinInt+d, math.MaxInt-d, 1<<61+d, -1<<61-d, 1<<62+d, -1<<62+d)
		}
		for _, k := range ks {
			if z, want := root(t, log, k, bits), all[place(k, n)]; z != want {
				t.Fatalf("Root %d of 2^%d in %d bits is %v, not %v", k, log, bits, z, want)
			}
		}
	})
}

// P7.1: a length's table are the roots 0 to n-1, in order.
func TestTableIsRoots(t *testing.T) {
	each(func(log, bits int) {
		for k, z := range table(t, log, bits) {
			if want := root(t, log, k, bits); z != want {
				t.Errorf("number %d of the table of 2^%d in %d bits is %v, not %v", k, log, bits, z, want)
			}
		}
	})
}

// P7.1: whole tables that a program apart from this one found.
func TestTablesByHand(t *testing.T) {
	want := []api.Cx{{Re: 8192, Im: 0}, {Re: 5793, Im: -5793}, {Re: 0, Im: -8192}, {Re: -5793, Im: -5793}, {Re: -8192, Im: 0}, {Re: -5793, Im: 5793}, {Re: 0, Im: 8192}, {Re: 5793, Im: 5793}}
	if all := table(t, 3, 13); !slices.Equal(all, want) {
		t.Errorf("the table of 8 in 13 bits is %v", all)
	}
	want = []api.Cx{{Re: 1, Im: 0}, {Re: 0, Im: -1}, {Re: -1, Im: 0}, {Re: 0, Im: 1}}
	if all := table(t, 2, 0); !slices.Equal(all, want) {
		t.Errorf("the table of 4 in 0 bits is %v", all)
	}
	for bits, want := range map[int][]api.Cx{
		13: {{Re: 8192}, {Re: 7568, Im: -3135}, {Re: 5793, Im: -5793}, {Re: 3135, Im: -7568}, {Im: -8192}},
		29: {{Re: 536870912}, {Re: 496004047, Im: -205451603}, {Re: 379625062, Im: -379625062}, {Re: 205451603, Im: -496004047}, {Im: -536870912}},
	} {
		if all := table(t, 4, bits); !slices.Equal(all[:5], want) {
			t.Errorf("the table of 16 in %d bits begins with %v", bits, all[:5])
		}
	}
}

// P7.1: a format's twiddles are a length's table in two bits less than the format has behind the sign.
func TestTwiddlesAreTables(t *testing.T) {
	for format, bits := range map[int]int{api.F15: 13, api.F31: 29} {
		for log := minLog; log <= maxLog; log++ {
			w, e := roots.Twiddles(log, format)
			if want := table(t, log, bits); e != api.OK || !slices.Equal(w, want) {
				t.Errorf("Twiddles of 2^%d of format %d are %v, error %d, not %v", log, format, w, e, want)
			}
		}
	}
	if w, e := roots.Twiddles(3, api.F15); e != api.OK || len(w) != 8 || w[3] != (api.Cx{Re: -5793, Im: -5793}) {
		t.Errorf("Twiddles of 8 of Q15 are %v, error %d", w, e)
	}
	if w, e := roots.Twiddles(4, api.F31); e != api.OK || len(w) != 16 || w[13] != (api.Cx{Re: 205451603, Im: 496004047}) {
		t.Errorf("Twiddles of 16 of Q31 are %v, error %d", w, e)
	}
}

// P7.1, R2, P1: a length or bits that may not be are told, and beside that is nothing.
func TestErrArg(t *testing.T) {
	refused := func(log, bits int) {
		t.Helper()
		for _, k := range append([]int{-1, 0, 1, 2, 63, 64}, extremes...) {
			if z, e := roots.Root(log, k, bits); z != (api.Cx{}) || e != api.ErrArg {
				t.Errorf("Root %d of 2^%d in %d bits is %v, error %d", k, log, bits, z, e)
			}
		}
		if all, e := roots.Table(log, bits); len(all) != 0 || e != api.ErrArg {
			t.Errorf("Table of 2^%d in %d bits is %v, error %d", log, bits, all, e)
		}
	}
	for _, log := range wrongLogs {
		for bits := range maxBits + 1 {
			refused(log, bits)
		}
		for _, bits := range wrongBits {
			refused(log, bits)
		}
	}
	for log := minLog; log <= maxLog; log++ {
		for _, bits := range wrongBits {
			refused(log, bits)
		}
	}
}

// P7.1, R2, P1: so of twiddles are a length or a format that may not be.
func TestTwiddlesErrArg(t *testing.T) {
	refused := func(log, format int) {
		t.Helper()
		if w, e := roots.Twiddles(log, format); len(w) != 0 || e != api.ErrArg {
			t.Errorf("Twiddles of 2^%d of format %d are %v, error %d", log, format, w, e)
		}
	}
	for _, log := range wrongLogs {
		for _, format := range append([]int{api.F15, api.F31}, wrongFormats...) {
			refused(log, format)
		}
	}
	for log := minLog; log <= maxLog; log++ {
		for _, format := range wrongFormats {
			refused(log, format)
		}
	}
}

// P7.2: root 0 is 2^bits.
func TestRootOfNothing(t *testing.T) {
	each(func(log, bits int) {
		if z := root(t, log, 0, bits); z != (api.Cx{Re: 1 << bits}) {
			t.Errorf("Root 0 of 2^%d in %d bits is %v", log, bits, z)
		}
	})
}

// P7.2: a quarter more is a turn, exactly: one by -i, as the roots go round the other way.
func TestQuarterMoreIsATurn(t *testing.T) {
	each(func(log, bits int) {
		n := 1 << log
		for k := -n; k < 2*n; k++ {
			z := root(t, log, k, bits)
			if q, want := root(t, log, k+n/4, bits), (api.Cx{Re: z.Im, Im: -z.Re}); q != want {
				t.Errorf("Root %d of 2^%d in %d bits is %v, not %v", k+n/4, log, bits, q, want)
			}
		}
	})
}

// P7.2: the opposite root is the conjugate, exactly.
func TestOppositeIsTheConjugate(t *testing.T) {
	each(func(log, bits int) {
		n := 1 << log
		for k := range 2 * n {
			z := root(t, log, k, bits)
			if q, want := root(t, log, -k, bits), (api.Cx{Re: z.Re, Im: -z.Im}); q != want {
				t.Errorf("Root %d of 2^%d in %d bits is %v, not %v", -k, log, bits, q, want)
			}
		}
		if q, want := root(t, log, -math.MaxInt, bits), root(t, log, math.MaxInt, bits); q.Re != want.Re || q.Im != -want.Im {
			t.Errorf("of 2^%d in %d bits the greatest root is %v, its opposite %v", log, bits, want, q)
		}
	})
}

// P7.2: the product of two is the root of the sum, times 2^bits, to 4 of these, of all two and all bits that this is told of.
func TestProducts(t *testing.T) {
	for log := minLog; log <= maxLog; log++ {
		for bits := leastBits; bits <= greatBits; bits++ {
			n, all := 1<<log, table(t, log, bits)
			for a := range n {
				for b := range n {
					p, e := cx.Times(all[a], all[b])
					z := root(t, log, a+b, bits)
					re, im := p.Re-z.Re<<bits, p.Im-z.Im<<bits
					if most := nearProduct << bits; e != api.OK || max(re, -re, im, -im) > most {
						t.Fatalf("roots %d and %d of 2^%d in %d bits: product %v, error %d, root of the sum %v", a, b, log, bits, p, e, z)
					}
				}
			}
		}
	}
}

// P7.1: twice as many roots have these ones among them.
func TestRootsOfTwiceTheLength(t *testing.T) {
	each(func(log, bits int) {
		if log == maxLog {
			return
		}
		for k := range 1 << log {
			if z, q := root(t, log, k, bits), root(t, log+1, 2*k, bits); z != q {
				t.Errorf("Root %d of 2^%d in %d bits is %v, that of twice as much %v", k, log, bits, z, q)
			}
		}
	})
}

// R1: a call tells the same, whatever was called ahead of it, and whatever was done with what it told.
func TestNothingIsKept(t *testing.T) {
	type answer struct {
		all []api.Cx
		e   api.Errno
	}
	one := func(z api.Cx, e api.Errno) answer { return answer{[]api.Cx{z}, e} }
	list := func(all []api.Cx, e api.Errno) answer { return answer{all, e} }
	calls := []func() answer{
		func() answer { return one(roots.Root(2, 1, 13)) },
		func() answer { return one(roots.Root(6, math.MinInt+5, 40)) },
		func() answer { return one(roots.Root(7, 1, 13)) },
		func() answer { return list(roots.Table(3, 13)) },
		func() answer { return list(roots.Table(6, 29)) },
		func() answer { return list(roots.Table(6, 41)) },
		func() answer { return list(roots.Twiddles(3, api.F15)) },
		func() answer { return list(roots.Twiddles(6, api.F31)) },
		func() answer { return list(roots.Twiddles(6, 2)) },
	}
	var first []answer
	for _, call := range calls {
		a := call()
		first = append(first, answer{slices.Clone(a.all), a.e})
		clear(a.all)
	}
	for i := len(calls) - 1; i >= 0; i-- {
		if again := calls[i](); !slices.Equal(again.all, first[i].all) || again.e != first[i].e {
			t.Errorf("call %d: first %v, then %v", i, first[i], again)
		}
	}
}
