package real_test

import (
	"math/big"
	"slices"
	"testing"

	"headroom/api"
	"headroom/fft"
	"headroom/plan"
	"headroom/roots"
)

// plans are those that may be here: of 2 formats, 4 lengths, 7 kernels with their scales, and 3 modes.
func plans() []api.Plan {
	return slices.DeleteFunc(plan.Every(), func(p api.Plan) bool { return p.Log == 6 || p.Inverse })
}

// bitsOf are a format's bits behind the sign, by the document.
func bitsOf(format int) int {
	if format == api.F31 {
		return 31
	}
	return 15
}

// oneOf is the least number that is greater than all mantissas of a plan's format.
func oneOf(p api.Plan) int { return 1 << bitsOf(p.Format) }

// whole is a complex number of any size.
type whole struct{ re, im *big.Int }

func wholeOf(a api.Cx) whole { return whole{big.NewInt(int64(a.Re)), big.NewInt(int64(a.Im))} }

func (a whole) plus(b whole) whole {
	return whole{new(big.Int).Add(a.re, b.re), new(big.Int).Add(a.im, b.im)}
}

func (a whole) less(b whole) whole {
	return whole{new(big.Int).Sub(a.re, b.re), new(big.Int).Sub(a.im, b.im)}
}

func (a whole) times(b whole) whole {
	product := func(x, y *big.Int) *big.Int { return new(big.Int).Mul(x, y) }
	return whole{
		new(big.Int).Sub(product(a.re, b.re), product(a.im, b.im)),
		new(big.Int).Add(product(a.re, b.im), product(a.im, b.re)),
	}
}

// rounded is x divided by 2^s, by what is left of it.
func rounded(x *big.Int, s, mode int) *big.Int {
	unit := new(big.Int).Lsh(big.NewInt(1), uint(s))
	less, left := new(big.Int).DivMod(x, unit, new(big.Int))
	half := new(big.Int).Lsh(left, 1).Cmp(unit)
	if mode != api.MFloor && half > 0 || mode == api.MUp && half == 0 || mode == api.MEven && half == 0 && less.Bit(0) == 1 {
		less.Add(less, big.NewInt(1))
	}
	return less
}

// place is what tells a root: the Log of a length, a k, and a format.
type place struct{ log, k, format int }

// known are all roots that are asked for. They are told once, as many blocks ask for the same.
var known = everyRoot()

func everyRoot() map[place]api.Cx {
	all := map[place]api.Cx{}
	for log := 3; log <= 6; log++ {
		for _, format := range []int{api.F15, api.F31} {
			for k := range 1 << log {
				all[place{log, k, format}], _ = roots.Root(log, k, bitsOf(format)-2)
			}
		}
	}
	return all
}

// binByWords is number k of a block untangled, ahead of all clamping, by the document's words.
func binByWords(x []api.Cx, k int, p api.Plan) api.Cx {
	m := 1 << p.Log
	first, second := x[0], x[0]
	if k != m {
		first = x[k]
	}
	if k != 0 && k != m {
		second = x[m-k]
	}
	t := bitsOf(p.Format) - 2
	a, b := wholeOf(first), wholeOf(api.Cx{Re: second.Re, Im: -second.Im})
	sum := a.plus(b).times(wholeOf(api.Cx{Re: 1 << t}))
	// Turned -1 times is times -i.
	turned := a.less(b).times(wholeOf(api.Cx{Im: -1}))
	sum = sum.plus(turned.times(wholeOf(known[place{p.Log + 1, k, p.Format}])))
	return api.Cx{Re: int(rounded(sum.re, t+2, p.Mode).Int64()), Im: int(rounded(sum.im, t+2, p.Mode).Int64())}
}

// clampedByWords is a part, clamped, and whether it was.
func clampedByWords(part int, p api.Plan) (int, bool) {
	one := oneOf(p)
	switch {
	case part < -one:
		return -one, true
	case part > one-1:
		return one - 1, true
	}
	return part, false
}

// untangledByWords is a block untangled, by the document's words.
func untangledByWords(b api.Block, p api.Plan) api.Block {
	y := api.Block{Exp: b.Exp + 1, Sat: b.Sat, Shifts: slices.Clone(b.Shifts)}
	for k := 0; k <= 1<<p.Log; k++ {
		z := binByWords(b.X, k, p)
		if p.Scale == api.SNone {
			re, reWas := clampedByWords(z.Re, p)
			im, imWas := clampedByWords(z.Im, p)
			z = api.Cx{Re: re, Im: im}
			y.Sat = y.Sat || reWas || imWas
		}
		y.X = append(y.X, z)
	}
	return y
}

// packedByWords are real numbers packed.
func packedByWords(x []int) []api.Cx {
	var y []api.Cx
	for len(x) > 0 {
		y = append(y, api.Cx{Re: x[0], Im: x[1]})
		x = x[2:]
	}
	return y
}

// binsByWords are the bins of real numbers.
func binsByWords(t *testing.T, x []int, p api.Plan) api.Block {
	t.Helper()
	b, e := fft.Run(packedByWords(x), p)
	if e != api.OK {
		t.Fatalf("Run of %v packed, plan %v: error %d", x, p, e)
	}
	return untangledByWords(b, p)
}

func re(z complex128) float64 { return real(z) }

func im(z complex128) float64 { return imag(z) }

// same tells whether two blocks are, in all fields; no shifts may be nil, or empty.
func same(a, b api.Block) bool {
	return slices.Equal(a.X, b.X) && a.Exp == b.Exp && a.Sat == b.Sat && slices.Equal(a.Shifts, b.Shifts)
}
