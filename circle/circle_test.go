package circle_test

import (
	"math"
	"math/big"
	"slices"
	"testing"

	"headroom/api"
	"headroom/arc"
	"headroom/circle"
	"headroom/gain"
)

// The edges that the document names, and how near points come: to the circle, to a product, and to a conjugate.
const (
	one           = 1 << 56
	farthest      = 1 << 56
	maxLog        = 6
	nearSquare    = 112 - 40
	nearProduct   = 1 << (56 - 39)
	nearConjugate = 1 << (56 - 42)
	nearOne       = 1 << (56 - 43)
)

// extremes are numbers that are far from all that may be.
var extremes = []int{math.MinInt, math.MinInt + 1, -1 << 62, 1 << 62, math.MaxInt - 1, math.MaxInt}

// angles are those at both ends, near 0, near the powers of 2, near the sums and differences of the steps' angles, and evenly between; in order.
func angles() []int {
	all := []int{0, farthest, farthest - 1}
	for k := range 56 {
		all = append(all, 1<<k-1, 1<<k, 1<<k+1)
	}
	sum, rest := 0, 0
	for _, angle := range gain.Angles() {
		sum, rest = sum+angle, angle-rest
		for d := -1; d <= 1; d++ {
			all = append(all, angle+d, sum+d, rest+d)
		}
	}
	for k := range 200 {
		all = append(all, farthest/200*k)
	}
	for _, z := range slices.Clone(all) {
		all = append(all, -z)
	}
	all = slices.DeleteFunc(all, func(z int) bool { return z < -farthest || z > farthest })
	slices.Sort(all)
	return slices.Compact(all)
}

// exactTurn is where a turn ends, by numbers of any size.
func exactTurn(x *big.Int, z int, steps []int) (re, im *big.Int) {
	re, im = new(big.Int).Set(x), new(big.Int)
	left := big.NewInt(int64(z))
	for i, angle := range steps {
		// Rsh rounds down below 0, too.
		a, b, by := new(big.Int).Rsh(re, uint(i)), new(big.Int).Rsh(im, uint(i)), big.NewInt(int64(angle))
		if left.Sign() >= 0 {
			re.Sub(re, b)
			im.Add(im, a)
			left.Sub(left, by)
		} else {
			re.Add(re, b)
			im.Sub(im, a)
			left.Add(left, by)
		}
	}
	return re, im
}

// exactPoints tells the points of the document's words: turns of 2^112, divided by how long a turn makes a length of 1.
func exactPoints() func(z int) (re, im *big.Int) {
	steps := gain.Angles()
	long, _ := exactTurn(big.NewInt(one), 0, steps)
	inverse := new(big.Int).Lsh(big.NewInt(1), 112)
	inverse.Quo(inverse, long)
	return func(z int) (re, im *big.Int) { return exactTurn(inverse, z, steps) }
}

func point(t *testing.T, z int) api.Cx {
	t.Helper()
	p, e := circle.Point(z)
	if e != api.OK {
		t.Fatalf("Point of %d: error %d", z, e)
	}
	return p
}

func eighth(t *testing.T, k, log int) api.Cx {
	t.Helper()
	p, e := circle.Eighth(k, log)
	if e != api.OK {
		t.Fatalf("Eighth %d of 2^%d: error %d", k, log, e)
	}
	return p
}

func same(n *big.Int, told int) bool { return n.Cmp(big.NewInt(int64(told))) == 0 }

// near tells whether each part of two points is as near as that.
func near(a, b api.Cx, most int) bool {
	re, im := a.Re-b.Re, a.Im-b.Im
	return re <= most && re >= -most && im <= most && im >= -most
}

// P6.1: points that a program of numbers of any size, apart from this one, found by the document's words.
func TestPointsByHand(t *testing.T) {
	for z, want := range map[int]api.Cx{
		0:                  {Re: 72057594037927937, Im: 2190},
		1:                  {Re: 72057594037927937, Im: 2190},
		-1:                 {Re: 72057594037927941, Im: -2191},
		farthest:           {Re: 38932884214001645, Im: 60634374617983556},
		-farthest:          {Re: 38932884214001645, Im: -60634374617983556},
		56593902016227522:  {Re: 50952413380203383, Im: 50952413380208975},
		-56593902016227522: {Re: 50952413380208985, Im: -50952413380203383},
		farthest / 2:       {Re: 63236487979460855, Im: 34546250832157312},
		12345678901234567:  {Re: 71002581606141019, Im: 12285367873943070},
		-98765432109876:    {Re: 72057526351730646, Im: -98765401182078},
	} {
		if p := point(t, z); p != want {
			t.Errorf("Point of %d is %v, not %v", z, p, want)
		}
	}
}

// P6.1: the document's example.
func TestPointOfNothing(t *testing.T) {
	if p := point(t, 0); !near(p, api.Cx{Re: one}, nearOne) {
		t.Errorf("Point of 0 is %v", p)
	}
}

// P6.1: points of angles of all kinds, both ends among them, are the ends of the turns of Inverse.
func TestPointsAreTurns(t *testing.T) {
	exact := exactPoints()
	for _, z := range angles() {
		p := point(t, z)
		if re, im := exact(z); !same(re, p.Re) || !same(im, p.Im) {
			t.Errorf("Point of %d is %v, not %v, %v", z, p, re, im)
		}
		if at, _, e := gain.Run(gain.Inverse(), z); at != p || e != api.OK {
			t.Errorf("Point of %d is %v; the turn ends at %v, error %d", z, p, at, e)
		}
	}
}

// P6.1: points lie where the circle has them: the cosine and the sine of the angle.
func TestPointsLieOnTheCircle(t *testing.T) {
	for z, want := range map[int]api.Cx{
		farthest:      {Re: 38932884214002781, Im: 60634374617982832},
		farthest / 2:  {Re: 63236487979461245, Im: 34546250832156608},
		arc.Quarter(): {Re: 50952413380206181, Im: 50952413380206181},
	} {
		if p := point(t, z); !near(p, want, nearOne) {
			t.Errorf("Point of %d is %v, not near %v", z, p, want)
		}
	}
	for _, z := range angles() {
		im, re := math.Sincos(float64(z) / one)
		if p, want := point(t, z), (api.Cx{Re: int(re * one), Im: int(im * one)}); !near(p, want, nearConjugate) {
			t.Errorf("Point of %d is %v, not near %v", z, p, want)
		}
	}
}

// P6.1, R2, P1: an angle that may not be is told, and beside that is nothing.
func TestPointErrRange(t *testing.T) {
	for _, z := range append([]int{farthest + 1, -farthest - 1, farthest + 2, -farthest - 2, 2 * farthest, -2 * farthest}, extremes...) {
		if p, e := circle.Point(z); p != (api.Cx{}) || e != api.ErrRange {
			t.Errorf("Point of %d is %v, error %d", z, p, e)
		}
	}
}

// P6.2: all parts that there are: each is the point of Quarter times k, divided by 2^log.
func TestEighthsArePoints(t *testing.T) {
	exact := exactPoints()
	for log := range maxLog + 1 {
		for k := range 1<<log + 1 {
			angle := new(big.Int).Mul(big.NewInt(int64(arc.Quarter())), big.NewInt(int64(k)))
			angle.Quo(angle, big.NewInt(1<<log))
			p := eighth(t, k, log)
			if re, im := exact(int(angle.Int64())); !same(re, p.Re) || !same(im, p.Im) {
				t.Errorf("Eighth %d of 2^%d is %v, not %v, %v", k, log, p, re, im)
			}
		}
	}
}

// P6.2: an eighth's parts go evenly from 1 to the middle of the quarter.
func TestEighthsLieOnTheCircle(t *testing.T) {
	if p, want := eighth(t, 1, 1), (api.Cx{Re: 66572536293648945, Im: 27575247414404491}); !near(p, want, nearOne) {
		t.Errorf("Eighth 1 of 2 is %v, not near %v", p, want)
	}
	if p, want := eighth(t, 1, 2), (api.Cx{Re: 70673027573671297, Im: 14057739224566805}); !near(p, want, nearOne) {
		t.Errorf("Eighth 1 of 4 is %v, not near %v", p, want)
	}
	for log := range maxLog + 1 {
		for k := range 1<<log + 1 {
			im, re := math.Sincos(math.Pi / 4 * float64(k) / float64(int(1)<<log))
			p, want := eighth(t, k, log), api.Cx{Re: int(re * one), Im: int(im * one)}
			if !near(p, want, nearConjugate) {
				t.Errorf("Eighth %d of 2^%d is %v, not near %v", k, log, p, want)
			}
		}
	}
}

// P6.2: the first part is the point of 0, the last one that of Quarter; and of half as many parts each is one of those.
func TestEighthsEnds(t *testing.T) {
	for log := range maxLog + 1 {
		if p := eighth(t, 0, log); p != point(t, 0) {
			t.Errorf("Eighth 0 of 2^%d is %v", log, p)
		}
		if p := eighth(t, 1<<log, log); p != point(t, arc.Quarter()) {
			t.Errorf("Eighth 2^%d of as many is %v", log, p)
		}
	}
	for log := range maxLog {
		for k := range 1<<log + 1 {
			if p, q := eighth(t, k, log), eighth(t, 2*k, log+1); p != q {
				t.Errorf("Eighth %d of 2^%d is %v, that of twice as much %v", k, log, p, q)
			}
		}
	}
}

// P6.2, R2, P1: a part that there is not is told, and beside that is nothing.
func TestEighthErrArg(t *testing.T) {
	refused := func(k, log int) {
		t.Helper()
		if p, e := circle.Eighth(k, log); p != (api.Cx{}) || e != api.ErrArg {
			t.Errorf("Eighth %d of 2^%d is %v, error %d", k, log, p, e)
		}
	}
	wrongLogs := append([]int{-1, -2, -6, -64, maxLog + 1, maxLog + 2, 31, 32, 61, 62, 63, 64, 65, 128, 256, 1 << 32, -1 << 32}, extremes...)
	for _, log := range wrongLogs {
		for _, k := range append([]int{-1, 0, 1, 2, 64, 65, 128}, extremes...) {
			refused(k, log)
		}
	}
	for log := range maxLog + 1 {
		for _, k := range append([]int{-1, -2, -1 << log, 1<<log + 1, 2<<log + 1, 129}, extremes...) {
			refused(k, log)
		}
	}
}

// fromCircle is how far the square of a point's length is from 1, of 2^112.
func fromCircle(p api.Cx) *big.Int {
	re, im := big.NewInt(int64(p.Re)), big.NewInt(int64(p.Im))
	square := re.Mul(re, re)
	square.Add(square, im.Mul(im, im))
	return square.Sub(square, new(big.Int).Lsh(big.NewInt(1), 112))
}

// product is that of two points, each part rounded down.
func product(a, b api.Cx) api.Cx {
	times := func(x, y int) *big.Int { return new(big.Int).Mul(big.NewInt(int64(x)), big.NewInt(int64(y))) }
	re := times(a.Re, b.Re)
	re.Sub(re, times(a.Im, b.Im)).Rsh(re, 56)
	im := times(a.Re, b.Im)
	im.Add(im, times(a.Im, b.Re)).Rsh(im, 56)
	return api.Cx{Re: int(re.Int64()), Im: int(im.Int64())}
}

// P6.3: a point's length is 1, to 2^-40 of its square; the point of the opposite angle is the conjugate, to 2^-42.
func TestLengthsAndOpposites(t *testing.T) {
	most := new(big.Int).Lsh(big.NewInt(1), nearSquare)
	held := func(z int) {
		t.Helper()
		p := point(t, z)
		if d := fromCircle(p); d.CmpAbs(most) > 0 {
			t.Errorf("Point of %d is %v: its square is %v from 1", z, p, d)
		}
		if q := point(t, -z); !near(q, api.Cx{Re: p.Re, Im: -p.Im}, nearConjugate) {
			t.Errorf("Point of %d is %v, of the opposite %v", z, p, q)
		}
	}
	for _, z := range angles() {
		held(z)
	}
	const parts = 10007
	for k := -parts; k <= parts; k++ {
		held(farthest / parts * k)
	}
	for z := -2000; z <= 2000; z++ {
		held(z)
	}
}

// P6.3: the points of an eighth's parts lie as near to the circle.
func TestEighthsLengths(t *testing.T) {
	most := new(big.Int).Lsh(big.NewInt(1), nearSquare)
	for log := range maxLog + 1 {
		for k := range 1<<log + 1 {
			if p := eighth(t, k, log); fromCircle(p).CmpAbs(most) > 0 {
				t.Errorf("Eighth %d of 2^%d is %v: its square is %v from 1", k, log, p, fromCircle(p))
			}
		}
	}
}

// P6.3: the point of two angles together is the product of theirs, to 2^-39.
func TestProducts(t *testing.T) {
	all := angles()
	points := make(map[int]api.Cx, len(all))
	for _, z := range all {
		points[z] = point(t, z)
	}
	for i, a := range all {
		for j, b := range all {
			ends := a == farthest || a == -farthest || a+b == farthest || a+b == -farthest
			if a > b || a+b < -farthest || a+b > farthest || !ends && (i+j)%11 != 0 {
				continue
			}
			if p, want := point(t, a+b), product(points[a], points[b]); !near(p, want, nearProduct) {
				t.Fatalf("Point of %d and %d is %v, their product %v", a, b, p, want)
			}
		}
	}
}

// P6.3: so it is of two parts of an eighth that make up one of it.
func TestProductsOfEighths(t *testing.T) {
	for log := range maxLog + 1 {
		for a := range 1<<log + 1 {
			for b := range 1<<log - a + 1 {
				p, want := eighth(t, a+b, log), product(eighth(t, a, log), eighth(t, b, log))
				if !near(p, want, nearProduct) {
					t.Errorf("Eighth %d and %d of 2^%d is %v, their product %v", a, b, log, p, want)
				}
			}
		}
	}
}

// R1: a call tells the same, whatever was called ahead of it, and whatever was done with the steps' angles.
func TestNothingIsKept(t *testing.T) {
	type answer struct {
		p api.Cx
		e api.Errno
	}
	var calls []func() answer
	for _, z := range []int{0, farthest, -farthest, farthest + 1, 12345, math.MinInt} {
		calls = append(calls, func() answer {
			p, e := circle.Point(z)
			return answer{p, e}
		})
	}
	for _, c := range [][2]int{{0, 0}, {1, 0}, {2, 0}, {3, 2}, {64, 6}, {65, 6}, {1, -1}, {33, 6}, {1, 7}} {
		calls = append(calls, func() answer {
			p, e := circle.Eighth(c[0], c[1])
			return answer{p, e}
		})
	}
	var first []answer
	for _, call := range calls {
		first = append(first, call())
	}
	clear(gain.Angles())
	for i := len(calls) - 1; i >= 0; i-- {
		if again := calls[i](); again != first[i] {
			t.Errorf("call %d: first %v, then %v", i, first[i], again)
		}
	}
}
