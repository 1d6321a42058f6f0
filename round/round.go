// Package round is layer 1: see shared/doc/01-round.md.
package round

import "headroom/api"

// topBits is the greatest power of 2 to shift by, and that of the greatest number that is put up.
const topBits = 62

// quotient is a division by a whole number, rounded down: what is left is 0 or more, and less than the divisor.
type quotient struct {
	down    int
	left    int
	divisor int
}

// rounding is a mode: it tells whether what is left goes up.
type rounding struct {
	goesUp func(q quotient) bool
}

// roundingOf is the rounding of a mode, and whether there is one.
func roundingOf(mode int) (rounding, bool) {
	switch mode {
	case api.MFloor:
		return rounding{goesUp: never}, true
	case api.MUp:
		return rounding{goesUp: fromHalf}, true
	case api.MEven:
		return rounding{goesUp: fromHalfToEven}, true
	}
	return rounding{}, false
}

func never(quotient) bool { return false }

func fromHalf(q quotient) bool { return q.left >= q.lacking() }

func fromHalfToEven(q quotient) bool {
	if q.left == q.lacking() {
		return q.down%2 != 0
	}
	return q.left > q.lacking()
}

// lacking is how far it is to the next whole quotient. What is left is held against this, not doubled, so that nothing can run over.
func (q quotient) lacking() int { return q.divisor - q.left }

// rounded is the quotient, put up by 1 if the rounding says so.
func (q quotient) rounded(r rounding) int {
	if r.goesUp(q) {
		return q.down + 1
	}
	return q.down
}

// Shift is x divided by 2^s, rounded in a mode.
func Shift(x, s, mode int) (int, api.Errno) {
	r, ok := roundingOf(mode)
	if !ok || !mayShift(s) {
		return 0, api.ErrArg
	}
	divisor := 1 << s
	q := quotient{down: x >> s, left: x & (divisor - 1), divisor: divisor}
	return q.rounded(r), api.OK
}

// Up is x times 2^s, if that is from -2^62 to 2^62.
func Up(x, s int) (int, api.Errno) {
	if !mayShift(s) {
		return 0, api.ErrArg
	}
	// The bound is shifted down instead of x up: that is exact, and can't wrap round.
	greatest := 1 << (topBits - s)
	if x < -greatest || x > greatest {
		return 0, api.ErrRange
	}
	return x << s, api.OK
}

// Div is x divided by d, rounded down.
func Div(x, d int) (int, api.Errno) {
	if d < 1 {
		return 0, api.ErrArg
	}
	q := x / d
	// Go divides towards 0, so a quotient below 0 that leaves something is one too great.
	if x%d < 0 {
		q--
	}
	return q, api.OK
}

func mayShift(s int) bool { return s >= 0 && s <= topBits }
