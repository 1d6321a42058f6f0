package two

import (
	"slices"
	"testing"
)

// P10.2: the pairs of passes by themselves, by hand, of 8 numbers and of the fewest.
func TestPairsByHand(t *testing.T) {
	for _, c := range []struct {
		n, h int
		want []places
	}{
		{4, 1, []places{{0, 1, 0}, {2, 3, 0}}},
		{4, 2, []places{{0, 2, 0}, {1, 3, 1}}},
		{8, 1, []places{{0, 1, 0}, {2, 3, 0}, {4, 5, 0}, {6, 7, 0}}},
		{8, 2, []places{{0, 2, 0}, {1, 3, 2}, {4, 6, 0}, {5, 7, 2}}},
		{8, 4, []places{{0, 4, 0}, {1, 5, 1}, {2, 6, 2}, {3, 7, 3}}},
	} {
		if all := slices.Collect(pairs(c.n, c.h)); !slices.Equal(all, c.want) {
			t.Errorf("pairs of %d numbers, of halves %d, are %v, not %v", c.n, c.h, all, c.want)
		}
	}
}

// P10.2: each number is of one pair, in each pass that may be, and its root is one of the first half.
func TestPairsTakeEachNumberOnce(t *testing.T) {
	for n := 4; n <= 64; n *= 2 {
		for h := 1; h < n; h *= 2 {
			var taken []int
			for p := range pairs(n, h) {
				taken = append(taken, p.a, p.b)
				if p.b-p.a != h || p.root < 0 || p.root >= n/2 {
					t.Errorf("of %d numbers, of halves %d, there is a pair %v", n, h, p)
				}
			}
			slices.Sort(taken)
			if len(taken) != n || taken[0] != 0 || taken[n-1] != n-1 || len(slices.Compact(taken)) != n {
				t.Errorf("the pairs of %d numbers, of halves %d, take %v", n, h, taken)
			}
		}
	}
}

// Who goes through pairs may end ahead of the last one: then no other follows, be it of the same block or not.
func TestPairsEndWhenAsked(t *testing.T) {
	for n := 4; n <= 64; n *= 2 {
		for h := 1; h < n; h *= 2 {
			for most := 1; most <= n/2; most++ {
				gone := 0
				for range pairs(n, h) {
					gone++
					if gone == most {
						break
					}
				}
				if gone != most {
					t.Errorf("of %d numbers, of halves %d, %d pairs were gone through, not %d", n, h, gone, most)
				}
			}
		}
	}
}
