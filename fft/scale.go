package fft

import (
	"headroom/api"
	"headroom/sat"
	"headroom/scan"
)

// scale is how far a plan shifts numbers, and what it makes of those that are too great nevertheless.
type scale interface {
	// ahead tells how far numbers are shifted down ahead of all passes; they are put up, if it is below 0.
	ahead(x []api.Cx) int
	// shift tells how far a pass of a kernel shifts numbers down.
	shift(x []api.Cx, kernel int) int
	// fitted are the numbers that a block has behind a pass, and whether some were clamped.
	fitted(x []api.Cx) ([]api.Cx, bool)
}

// halving halves, whatever the numbers are: once for each time that a pass doubles how many are summed.
type halving struct{}

// asNeeded shifts as far as the greatest part needs it in a format.
type asNeeded struct {
	format int
}

// unshifted shifts nothing, and clamps what is no mantissa of its format.
type unshifted struct {
	format int
}

// scaleOf is the scale of a plan that may be.
func scaleOf(p api.Plan) scale {
	switch p.Scale {
	case api.SHalf:
		return halving{}
	case api.SBlock:
		return asNeeded{p.Format}
	}
	return unshifted{p.Format}
}

func (halving) ahead([]api.Cx) int { return 1 }

func (halving) shift(_ []api.Cx, kernel int) int {
	if kernel == 4 {
		return 2
	}
	return 1
}

func (halving) fitted(x []api.Cx) ([]api.Cx, bool) { return x, false }

func (s asNeeded) ahead(x []api.Cx) int {
	greatest, _ := scan.Max(x)
	room, _ := scan.Room(greatest, s.format)
	return -room
}

func (s asNeeded) shift(x []api.Cx, kernel int) int {
	greatest, _ := scan.Max(x)
	down, _ := scan.Pre(kernel, greatest, s.format)
	return down
}

func (asNeeded) fitted(x []api.Cx) ([]api.Cx, bool) { return x, false }

func (unshifted) ahead([]api.Cx) int { return 0 }

func (unshifted) shift([]api.Cx, int) int { return 0 }

func (s unshifted) fitted(x []api.Cx) ([]api.Cx, bool) {
	y := make([]api.Cx, len(x))
	clamped := false
	for i, a := range x {
		re, reWas, _ := sat.Clamp(a.Re, s.format)
		im, imWas, _ := sat.Clamp(a.Im, s.format)
		y[i] = api.Cx{Re: re, Im: im}
		clamped = clamped || reWas || imWas
	}
	return y, clamped
}
