package arc_test

import (
	"math"
	"math/big"
	"reflect"
	"slices"
	"testing"

	"headroom/api"
	"headroom/arc"
)

// The edges that the document names, and how far apart angles that are the same may come.
const (
	one      = 1 << 56
	least    = 2
	greatest = 1 << 44
	slack    = 400
)

// lastOfTwo is the greatest number whose p(1) is not 0: its cube is not more than 2^56.
const lastOfTwo = 416127

// wrong are numbers next to those that may be, and far from them.
var wrong = []int{
	1, 0, -1, -2, -3, -239, -greatest, greatest + 1, greatest + 2, 2 * greatest, one, 1 << 62, -1 << 62,
	math.MaxInt, math.MaxInt - 1, math.MinInt, math.MinInt + 1,
}

// samples are all numbers near the least, those near the powers of 2 and what is half as much again, near where a term more comes, and the greatest ones; in order.
func samples() []int {
	var all []int
	for n := least; n <= 3000; n++ {
		all = append(all, n)
	}
	for k := 12; k < 44; k++ {
		for d := -3; d <= 3; d++ {
			all = append(all, 1<<k+d, 3<<(k-1)+d)
		}
	}
	for d := -3; d <= 3; d++ {
		all = append(all, lastOfTwo+d)
	}
	for d := range 5 {
		all = append(all, greatest-d)
	}
	slices.Sort(all)
	return all
}

// exactTerms are n's terms by whole powers of n, of any size: what is divided by n again and again, and rounded down each time, is divided by the power.
func exactTerms(n int) []*big.Int {
	var all []*big.Int
	for j := int64(0); ; j++ {
		power := new(big.Int).Exp(big.NewInt(int64(n)), big.NewInt(2*j+1), nil)
		p := new(big.Int).Quo(big.NewInt(one), power)
		if p.Sign() == 0 {
			return all
		}
		term := p.Quo(p, big.NewInt(2*j+1))
		if j%2 == 1 {
			term.Neg(term)
		}
		all = append(all, term)
	}
}

func arcOf(t *testing.T, n int) int {
	t.Helper()
	angle, e := arc.Arc(n)
	if e != api.OK {
		t.Fatalf("Arc of %d: error %d", n, e)
	}
	return angle
}

func termsOf(t *testing.T, n int) []int {
	t.Helper()
	terms, e := arc.Terms(n)
	if e != api.OK {
		t.Fatalf("Terms of %d: error %d", n, e)
	}
	return terms
}

// P4.1: the document's example, and ones told by hand. The sign is changed behind the rounding; a term that is 0 is one as long as its p is not; it ends where p is 0.
func TestByHand(t *testing.T) {
	for _, c := range []struct {
		n     int
		terms []int
		arc   int
	}{
		{1 << 40, []int{65536}, 65536},
		{greatest, []int{4096}, 4096},
		{greatest - 1, []int{4096}, 4096},
		{1 << 18, []int{1 << 38, -1}, 1<<38 - 1},
		{1 << 16, []int{1 << 40, -85}, 1<<40 - 85},
		{lastOfTwo, []int{173162505768, 0}, 173162505768},
		{lastOfTwo + 1, []int{173162089640}, 173162089640},
		{239, []int{301496209363715, -1759400858, 18480, 0}, 301494449981337},
		{5, []int{
			14411518807585587, -192153584101141, 4611686018427, -131762457669, 4099276460, -134158138,
			4540737, -157412, 5555, -198, 7, 0,
		}, 14223849116552215},
	} {
		if terms := termsOf(t, c.n); !slices.Equal(terms, c.terms) {
			t.Errorf("Terms of %d are %v, not %v", c.n, terms, c.terms)
		}
		if angle := arcOf(t, c.n); angle != c.arc {
			t.Errorf("Arc of %d is %d, not %d", c.n, angle, c.arc)
		}
	}
}

// P4.1: of the least number the terms are most: p is 2^55, and a quarter each time, to 2.
func TestLeastByHand(t *testing.T) {
	terms := termsOf(t, least)
	if len(terms) != 28 {
		t.Fatalf("Terms of %d are %d", least, len(terms))
	}
	for j, term := range terms {
		want := 1 << (55 - 2*j) / (2*j + 1)
		if j%2 == 1 {
			want = -want
		}
		if term != want {
			t.Errorf("term %d of %d is %d, not %d", j, least, term, want)
		}
	}
}

// P4.1, R5: terms and their sums, of numbers of any size that may be, held against numbers that can't run over.
func TestTermsAndArcsAreExact(t *testing.T) {
	for _, n := range samples() {
		terms, want := termsOf(t, n), exactTerms(n)
		if len(terms) != len(want) {
			t.Fatalf("Terms of %d are %d, not %d", n, len(terms), len(want))
		}
		all := new(big.Int)
		for j, term := range terms {
			if want[j].Cmp(big.NewInt(int64(term))) != 0 {
				t.Fatalf("term %d of %d is %d, not %v", j, n, term, want[j])
			}
			all.Add(all, want[j])
		}
		if angle := arcOf(t, n); all.Cmp(big.NewInt(int64(angle))) != 0 {
			t.Fatalf("Arc of %d is %d, not %v", n, angle, all)
		}
	}
}

// P4.1: Quarter, by hand, is the Arcs of 2 and 3 together.
func TestQuarterByHand(t *testing.T) {
	if q := arc.Quarter(); q != 56593902016227522 {
		t.Errorf("Quarter is %d", q)
	}
	if q, want := arc.Quarter(), arcOf(t, 2)+arcOf(t, 3); q != want {
		t.Errorf("Quarter is %d, and the Arcs of 2 and 3 together %d", q, want)
	}
}

// P4.1, R2, P1: a number that may not be is told, and beside that is nothing.
func TestErrArg(t *testing.T) {
	for _, n := range wrong {
		if angle, e := arc.Arc(n); angle != 0 || e != api.ErrArg {
			t.Errorf("Arc of %d is %d, error %d", n, angle, e)
		}
		if terms, e := arc.Terms(n); len(terms) != 0 || e != api.ErrArg {
			t.Errorf("Terms of %d are %v, error %d", n, terms, e)
		}
	}
}

// P4.2: Arcs of greater numbers are not greater.
func TestArcsKeepOrder(t *testing.T) {
	before := arcOf(t, least)
	held := func(n int) {
		t.Helper()
		angle := arcOf(t, n)
		if angle > before {
			t.Fatalf("Arc of %d is %d, and that of a less number %d", n, angle, before)
		}
		before = angle
	}
	for n := least + 1; n <= lastOfTwo+1000; n++ {
		held(n)
	}
	for _, n := range samples() {
		if n > lastOfTwo+1000 {
			held(n)
		}
	}
}

// near tells whether two angles are the same but for what is rounded.
func near(a, b int) bool { return a-b <= slack && b-a <= slack }

// P4.2: Quarter is 4 times Arc of 5, less Arc of 239.
func TestQuarterByOtherArcs(t *testing.T) {
	if q, other := arc.Quarter(), 4*arcOf(t, 5)-arcOf(t, 239); !near(q, other) {
		t.Errorf("Quarter is %d, by the Arcs of 5 and 239 it is %d", q, other)
	}
}

// P4.2: Arc of n is Arc of n+1 and Arc of n·n+n+1, of all n of which these may be.
func TestArcIsTwo(t *testing.T) {
	n := least
	for ; n*n+n+1 <= greatest; n++ {
		if a, two := arcOf(t, n), arcOf(t, n+1)+arcOf(t, n*n+n+1); !near(a, two) {
			t.Fatalf("Arc of %d is %d, and those of %d and %d together %d", n, a, n+1, n*n+n+1, two)
		}
	}
	if n != 1<<22 {
		t.Errorf("the first one of which they may not be is %d", n)
	}
}

// R1: a call tells the same, whatever was called ahead of it, and whatever was done with the list that it told.
func TestNothingIsKept(t *testing.T) {
	type answer struct {
		terms        []int
		arc, quarter int
		ofTerms, e   api.Errno
	}
	ask := func(n int) answer {
		var a answer
		a.terms, a.ofTerms = arc.Terms(n)
		a.arc, a.e = arc.Arc(n)
		a.quarter = arc.Quarter()
		return a
	}
	asked := []int{2, 1, 3, 5, math.MinInt, 239, 1 << 18, greatest, greatest + 1, 2}
	var first []answer
	for _, n := range asked {
		a := ask(n)
		told := a.terms
		a.terms = slices.Clone(told)
		clear(told)
		first = append(first, a)
	}
	for i := len(asked) - 1; i >= 0; i-- {
		if again := ask(asked[i]); !reflect.DeepEqual(again, first[i]) {
			t.Errorf("%d: first %v, then %v", asked[i], first[i], again)
		}
	}
}
