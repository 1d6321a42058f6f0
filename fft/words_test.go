package fft_test

import (
	"slices"

	"headroom/api"
	"headroom/four"
	"headroom/roots"
	"headroom/split"
	"headroom/two"
)

// bitsOf are a format's bits behind the sign, by the document.
func bitsOf(format int) int {
	if format == api.F31 {
		return 31
	}
	return 15
}

// rounded is x divided by 2^s, by how far the two whole numbers next to it are.
func rounded(x, s, mode int) int {
	unit := 1 << s
	less := x >> s
	left := x - less*unit
	switch {
	case mode == api.MFloor || 2*left < unit:
		return less
	case 2*left > unit || mode == api.MUp || less%2 != 0:
		return less + 1
	}
	return less
}

// greatestOf is the greatest part of numbers, without its sign.
func greatestOf(x []api.Cx) int {
	m := 0
	for _, a := range x {
		m = max(m, a.Re, -a.Re, a.Im, -a.Im)
	}
	return m
}

// roomByWords is the greatest s with which m times 2^s is not more than 2^(B-1), if there is one.
func roomByWords(m, format int) int {
	half := 1 << (bitsOf(format) - 1)
	if m == 0 || m > half {
		return 0
	}
	s := 0
	for m*2 <= half {
		m, s = m*2, s+1
	}
	return s
}

// flippedPlace is a place of 2^log, its bits told from behind.
func flippedPlace(i, log int) int {
	place := 0
	for bit := range log {
		if i&(1<<bit) != 0 {
			place += 1 << (log - 1 - bit)
		}
	}
	return place
}

// readyByWords is the block that is ready, by the document's words.
func readyByWords(x []api.Cx, p api.Plan) api.Block {
	y := make([]api.Cx, len(x))
	for i := range y {
		y[i] = x[flippedPlace(i, p.Log)]
		if p.Kernel == api.KSplit {
			y[i] = x[i]
		}
	}
	switch p.Scale {
	case api.SHalf:
		for i, a := range y {
			y[i] = api.Cx{Re: rounded(a.Re, 1, p.Mode), Im: rounded(a.Im, 1, p.Mode)}
		}
		return api.Block{X: y, Exp: 1}
	case api.SBlock:
		s := roomByWords(greatestOf(x), p.Format)
		for i, a := range y {
			y[i] = api.Cx{Re: a.Re << s, Im: a.Im << s}
		}
		return api.Block{X: y, Exp: -s}
	}
	return api.Block{X: y}
}

// passesByWords are a plan's passes.
func passesByWords(p api.Plan) []api.Pass {
	var all []api.Pass
	n := 1 << p.Log
	switch p.Kernel {
	case api.KTwo:
		for h := 1; h <= n/2; h *= 2 {
			all = append(all, api.Pass{Kernel: 2, H: h})
		}
	case api.KFour:
		h := 1
		if p.Log == 3 || p.Log == 5 {
			all = append(all, api.Pass{Kernel: 2, H: 1})
			h = 2
		}
		for ; h <= n/4; h *= 4 {
			all = append(all, api.Pass{Kernel: 4, H: h})
		}
	}
	return all
}

// shiftByWords is how far a plan's pass of a kernel shifts numbers with the greatest part m.
func shiftByWords(p api.Plan, kernel, m int) int {
	bits := bitsOf(p.Format)
	switch {
	case p.Scale == api.SNone:
		return 0
	case p.Scale == api.SHalf:
		return map[int]int{2: 1, 4: 2}[kernel]
	case kernel == 4 && m <= 1<<(bits-3):
		return 0
	case m <= 1<<(bits-2):
		return map[int]int{2: 0, 4: 1}[kernel]
	case m <= 1<<(bits-1):
		return map[int]int{2: 1, 4: 2}[kernel]
	}
	return map[int]int{2: 2, 4: 3}[kernel]
}

// clampedByWords is a part, clamped, and whether it was.
func clampedByWords(part, format int) (int, bool) {
	one := 1 << bitsOf(format)
	switch {
	case part < -one:
		return -one, true
	case part > one-1:
		return one - 1, true
	}
	return part, false
}

// twiddlesOf are those of each length and format. They are told once, as many blocks ask for the same.
var twiddlesOf = everyTwiddles()

func everyTwiddles() map[[2]int][]api.Cx {
	all := map[[2]int][]api.Cx{}
	for log := api.MinLog; log <= api.MaxLog; log++ {
		for _, format := range []int{api.F15, api.F31} {
			all[[2]int{log, format}], _ = roots.Twiddles(log, format)
		}
	}
	return all
}

// nextByWords is the block behind a pass, by the document's words.
func nextByWords(b api.Block, p api.Plan, i int) api.Block {
	pass := passesByWords(p)[i]
	s := shiftByWords(p, pass.Kernel, greatestOf(b.X))
	w := twiddlesOf[[2]int{p.Log, p.Format}]
	var y []api.Cx
	if pass.Kernel == 2 {
		y, _ = two.Pass(b.X, w, pass.H, bitsOf(p.Format)-2, s, p.Mode, p.Inverse)
	} else {
		y, _ = four.Pass(b.X, w, pass.H, bitsOf(p.Format)-2, s, p.Mode, p.Inverse)
	}
	was := b.Sat
	if p.Scale == api.SNone {
		for k, a := range y {
			re, reWas := clampedByWords(a.Re, p.Format)
			im, imWas := clampedByWords(a.Im, p.Format)
			y[k] = api.Cx{Re: re, Im: im}
			was = was || reWas || imWas
		}
	}
	return api.Block{X: y, Exp: b.Exp + s, Sat: was, Shifts: slices.Concat(b.Shifts, []int{s})}
}

// runByWords are all blocks of a transform, by the document's words: the one that is ready, and those behind it; the last one is the transform.
func runByWords(x []api.Cx, p api.Plan) []api.Block {
	b := readyByWords(x, p)
	all := []api.Block{b}
	if p.Kernel == api.KSplit {
		y, _ := split.Run(b.X, p.Format, p.Mode, p.Inverse)
		return append(all, api.Block{X: y, Exp: b.Exp + p.Log})
	}
	for i := range passesByWords(p) {
		b = nextByWords(b, p, i)
		all = append(all, b)
	}
	return all
}

// same tells whether two blocks are, in all fields; no shifts may be nil, or empty.
func same(a, b api.Block) bool {
	return slices.Equal(a.X, b.X) && a.Exp == b.Exp && a.Sat == b.Sat && slices.Equal(a.Shifts, b.Shifts)
}

// empty tells whether all fields of a block are of their zero values.
func empty(b api.Block) bool { return len(b.X) == 0 && b.Exp == 0 && !b.Sat && len(b.Shifts) == 0 }
