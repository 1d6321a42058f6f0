package near_test

import (
	"math/big"
	"testing"

	"headroom/api"
	"headroom/budget"
	"headroom/dft"
)

// mostPower is the greatest power that the document lets a block have.
const mostPower = 20

// bitsOf are a format's bits behind the sign, by the document.
func bitsOf(format int) int {
	if format == api.F31 {
		return 31
	}
	return 15
}

// oneOf is the least number that is greater than all mantissas of a plan's format.
func oneOf(p api.Plan) int { return 1 << bitsOf(p.Format) }

// upByWords is how far a plan puts numbers up: to half of what its format has at most, if it is of SBlock.
func upByWords(x []api.Cx, p api.Plan) int {
	m := 0
	for _, a := range x {
		m = max(m, a.Re, -a.Re, a.Im, -a.Im)
	}
	if p.Scale != api.SBlock || m == 0 {
		return 0
	}
	u := 0
	for m*2 <= oneOf(p)/2 {
		m, u = m*2, u+1
	}
	return u
}

// putUp are numbers, as a plan puts them up.
func putUp(x []api.Cx, p api.Plan) []api.Cx {
	u := upByWords(x, p)
	up := make([]api.Cx, len(x))
	for k, a := range x {
		up[k] = api.Cx{Re: a.Re * (1 << u), Im: a.Im * (1 << u)}
	}
	return up
}

// scaled is a number times 2^s, of any size.
func scaled(part, s int) *big.Int {
	return new(big.Int).Mul(big.NewInt(int64(part)), new(big.Int).Lsh(big.NewInt(1), uint(s)))
}

// farByWords is how far a block is, by the document's words, with numbers of any size.
func farByWords(t *testing.T, x []api.Cx, p api.Plan, b api.Block) *big.Int {
	t.Helper()
	power := b.Exp + upByWords(x, p)
	up := putUp(x, p)
	far := new(big.Int)
	bins, e := dft.All(up, p.Inverse)
	if e != api.OK {
		t.Fatalf("All of %v: error %d", up, e)
	}
	for k, a := range b.X {
		bin := bins[k]
		for _, d := range []*big.Int{
			new(big.Int).Sub(scaled(a.Re, power+8), big.NewInt(int64(bin.Re))),
			new(big.Int).Sub(scaled(a.Im, power+8), big.NewInt(int64(bin.Im))),
		} {
			if d.CmpAbs(far) > 0 {
				far.Abs(d)
			}
		}
	}
	return far
}

// boundByWords is how far a block may be.
func boundByWords(t *testing.T, x []api.Cx, p api.Plan, b api.Block) *big.Int {
	t.Helper()
	loss, e := budget.Of(p, b.Shifts)
	if e != api.OK {
		t.Fatalf("the shifts %v are none of the plan %v: error %d", b.Shifts, p, e)
	}
	slack, e := dft.Slack(putUp(x, p))
	if e != api.OK {
		t.Fatalf("Slack of %v: error %d", putUp(x, p), e)
	}
	bound := scaled(loss, b.Exp+upByWords(x, p)+2)
	return bound.Add(bound, big.NewInt(int64(slack)))
}

// holdToWords holds all that is told of a block that may be against the words.
func holdToWords(t *testing.T, x []api.Cx, p api.Plan, b api.Block) {
	t.Helper()
	far, bound := farByWords(t, x, p, b), boundByWords(t, x, p, b)
	if f := farOf(t, x, p, b); far.Cmp(big.NewInt(int64(f))) != 0 {
		t.Fatalf("Far of %v, plan %v, block %v, is %d, not %v", x, p, b, f, far)
	}
	if m := boundOf(t, x, p, b); bound.Cmp(big.NewInt(int64(m))) != 0 {
		t.Fatalf("Bound of %v, plan %v, block %v, is %d, not %v", x, p, b, m, bound)
	}
	if is := isWithin(t, x, p, b); is != (far.Cmp(bound) <= 0) {
		t.Fatalf("Within of %v, plan %v, block %v, is %t, of %v and %v", x, p, b, is, far, bound)
	}
}
