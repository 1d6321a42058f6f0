package split

import (
	"slices"
	"testing"

	"headroom/api"
	"headroom/flip"
	"headroom/roots"
	"headroom/sat"
)

// counted are n numbers whose Re tells their place.
func counted(n int) []api.Cx {
	x := make([]api.Cx, n)
	for k := range x {
		x[k] = api.Cx{Re: k, Im: -k}
	}
	return x
}

// P12.2: which numbers make up the even half and the odd quarters, by hand.
func TestPlacesByHand(t *testing.T) {
	for _, c := range []struct {
		n, first, step int
		want           []int
	}{
		{4, 0, 2, []int{0, 2}},
		{4, 1, 4, []int{1}},
		{4, 3, 4, []int{3}},
		{8, 0, 2, []int{0, 2, 4, 6}},
		{8, 1, 4, []int{1, 5}},
		{8, 3, 4, []int{3, 7}},
		{16, 0, 2, []int{0, 2, 4, 6, 8, 10, 12, 14}},
		{16, 1, 4, []int{1, 5, 9, 13}},
		{16, 3, 4, []int{3, 7, 11, 15}},
	} {
		var places []int
		for a := range ofPlaces(counted(c.n), c.first, c.step) {
			places = append(places, a.Re)
		}
		if !slices.Equal(places, c.want) {
			t.Errorf("of %d numbers every %d from %d on are %v, not %v", c.n, c.step, c.first, places, c.want)
		}
	}
}

// P12.2: the three parts take each number once, of all lengths.
func TestPlacesTakeEachNumberOnce(t *testing.T) {
	for n := 4; n <= 64; n *= 2 {
		x := counted(n)
		all := slices.Concat(listed(ofPlaces(x, 0, 2)), listed(ofPlaces(x, 1, 4)), listed(ofPlaces(x, 3, 4)))
		slices.SortFunc(all, func(a, b api.Cx) int { return a.Re - b.Re })
		if !slices.Equal(all, x) {
			t.Errorf("the parts of %d numbers take %v", n, all)
		}
	}
}

// Who goes through numbers may end ahead of the last one: then no other follows.
func TestPlacesEndWhenAsked(t *testing.T) {
	for n := 4; n <= 64; n *= 2 {
		for most := 1; most <= n/2; most++ {
			gone := 0
			for range ofPlaces(counted(n), 0, 2) {
				gone++
				if gone == most {
					break
				}
			}
			if gone != most {
				t.Errorf("of %d numbers %d were gone through, not %d", n, gone, most)
			}
		}
	}
}

// ways are those to join with roots in bits: all modes, forward and inverse.
func ways(bits int) []joining {
	var all []joining
	for mode := api.MFloor; mode <= api.MEven; mode++ {
		all = append(all, joining{bits, mode, false}, joining{bits, mode, true})
	}
	return all
}

// partsOnTheWay goes through the transforms that the one of x is made of, down to those of one number, and that of x itself.
func partsOnTheWay(how joining, x, w []api.Cx, do func(part []api.Cx)) {
	do(how.transform(x, w))
	if len(x) < 4 {
		return
	}
	partsOnTheWay(how, listed(ofPlaces(x, 0, 2)), w, do)
	partsOnTheWay(how, listed(ofPlaces(x, 1, 4)), w, do)
	partsOnTheWay(how, listed(ofPlaces(x, 3, 4)), w, do)
}

// towards are numbers as great as may be whose signs put all that is summed in a bin's Re on one side, so that it is as great as may be.
func towards(w []api.Cx, bin, most int) []api.Cx {
	x := make([]api.Cx, len(w))
	signed := func(of int) int {
		if of < 0 {
			return -most
		}
		return most
	}
	for i := range x {
		root := w[bin*i%len(w)]
		x[i] = api.Cx{Re: signed(root.Re), Im: signed(-root.Im)}
	}
	return x
}

// P12.3: on the way no part is more than 2^B, of the numbers that make each bin greatest, and of others that are as great as may be.
func TestNoPartOnTheWayIsGreat(t *testing.T) {
	for _, format := range []int{api.F15, api.F31} {
		bits, e := sat.Bits(format)
		if e != api.OK {
			t.Fatalf("Bits of format %d: error %d", format, e)
		}
		for n := 4; n <= 64; n *= 2 {
			log, _ := flip.Log(n)
			w, e := roots.Twiddles(log, format)
			if e != api.OK {
				t.Fatalf("Twiddles of %d, format %d: error %d", n, format, e)
			}
			half := 1 << (bits - 1)
			xs := [][]api.Cx{slices.Repeat([]api.Cx{{Re: half, Im: half}}, n), slices.Repeat([]api.Cx{{Re: -half, Im: -half}}, n)}
			for bin := range n {
				xs = append(xs, towards(w, bin, half), towards(w, bin, -half))
			}
			for _, x := range xs {
				for _, how := range ways(bits - spareBits) {
					partsOnTheWay(how, x, w, func(part []api.Cx) {
						if !within(1<<bits, part...) {
							t.Fatalf("on the way of %v, %v, is %v", x, how, part)
						}
					})
				}
			}
		}
	}
}
