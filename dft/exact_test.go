package dft_test

import (
	"math/big"
	"testing"

	"headroom/api"
)

// exactBits are those of the numbers that are held to be exact here.
const exactBits = 300

// point is a complex number that is all but exact.
type point struct{ re, im *big.Float }

func exact(x int) *big.Float { return new(big.Float).SetPrec(exactBits).SetInt64(int64(x)) }

func times(a, b *big.Float) *big.Float { return exact(0).Mul(a, b) }

func sum(a, b *big.Float) *big.Float { return exact(0).Add(a, b) }

func less(a, b *big.Float) *big.Float { return exact(0).Sub(a, b) }

// halved is the point of half the angle of a point, up to half the circle.
func halved(p point) point {
	half := big.NewFloat(0.5)
	re := times(half, sum(exact(1), p.re))
	im := times(half, less(exact(1), p.re))
	return point{exact(0).Sqrt(re), exact(0).Sqrt(im)}
}

// exactRoots are all roots of a length, round the circle as the negative angles go.
func exactRoots(log int) []point {
	first := point{exact(-1), exact(0)}
	for range log - 1 {
		first = halved(first)
	}
	all := []point{{exact(1), exact(0)}}
	for range 1<<log - 1 {
		p := all[len(all)-1]
		all = append(all, point{
			sum(times(p.re, first.re), times(p.im, first.im)),
			less(times(p.im, first.re), times(p.re, first.im)),
		})
	}
	return all
}

// exactBin is number k of the exact transform, in 256ths.
func exactBin(x []api.Cx, w []point, k int, inverse bool) point {
	if inverse {
		k = -k
	}
	re, im := exact(0), exact(0)
	for j, a := range x {
		root := w[place(j*k, len(x))]
		re = sum(re, less(times(exact(256*a.Re), root.re), times(exact(256*a.Im), root.im)))
		im = sum(im, sum(times(exact(256*a.Re), root.im), times(exact(256*a.Im), root.re)))
	}
	return point{re, im}
}

// near tells whether a part of a bin is not farther from the exact one's than the slack.
func near(part int, of *big.Float, slack int) bool {
	return exact(0).Abs(less(exact(part), of)).Cmp(exact(slack)) <= 0
}

// holdNear holds all bins of numbers, both ways, against the exact transform's.
func holdNear(t *testing.T, x []api.Cx, w []point) {
	t.Helper()
	slack := slackOf(t, x)
	for _, inverse := range bothWays {
		for k, z := range binsOf(t, x, inverse) {
			if p := exactBin(x, w, k, inverse); !near(z.Re, p.re, slack) || !near(z.Im, p.im, slack) {
				t.Fatalf("bin %d of %v, inverse %t, is %v, farther than %d from %v, %v", k, x, inverse, z, slack, p.re, p.im)
			}
		}
	}
}

// P16.1: the slack is how far a bin may be from the exact transform's, at most.
func TestBinsAreNear(t *testing.T) {
	for log := minLog; log <= maxLog; log++ {
		w := exactRoots(log)
		for _, x := range samples(1 << log) {
			holdNear(t, x, w)
		}
	}
}

// side is m, of the sign of how far a root's part is from the exact one.
func side(part int, of *big.Float, m int) int {
	if less(times(exact(1<<rootBits), of), exact(part)).Sign() < 0 {
		return -m
	}
	return m
}

// P16.1, P16.2: so it is of the numbers that put all that roots lose on one side, great and small.
func TestBinsAreNearAtTheWorst(t *testing.T) {
	known := tables(t)
	for log := minLog; log <= maxLog; log++ {
		n, w := 1<<log, exactRoots(log)
		for k := range n {
			root := func(j int) (api.Cx, point) { return known[n][j*k%n], w[j*k%n] }
			for _, m := range []int{farthest, farthest / n, 1 << 20, 1} {
				ofRe := made(n, func(j int) api.Cx {
					a, p := root(j)
					return api.Cx{Re: side(a.Re, p.re, m), Im: -side(a.Im, p.im, m)}
				})
				ofIm := made(n, func(j int) api.Cx {
					a, p := root(j)
					return api.Cx{Re: side(a.Im, p.im, m), Im: side(a.Re, p.re, m)}
				})
				for _, x := range [][]api.Cx{ofRe, ofIm} {
					farFromFirst(t, x)
					slack, z, p := slackOf(t, x), binOf(t, x, k, false), exactBin(x, w, k, false)
					if !near(z.Re, p.re, slack) || !near(z.Im, p.im, slack) {
						t.Fatalf("bin %d of %v is %v, farther than %d from %v, %v", k, x, z, slack, p.re, p.im)
					}
				}
			}
		}
	}
}
