package roots

import (
	"testing"

	"headroom/api"
	"headroom/circle"
)

// P7.1: the points of a quarter's parts by themselves, ahead of their rounding, as that hides how they come about: up to the middle an eighth's parts, behind it those mirrored, and in the middle Re of the last one in both places.
func TestPointsOfQuarters(t *testing.T) {
	for log := api.MinLog; log <= api.MaxLog; log++ {
		n := 1 << log
		for u := range n {
			p := pointOf(u, log)
			q, e := circle.Eighth(min(2*u, 2*(n-u)), log)
			want := q
			switch {
			case 2*u > n:
				want = api.Cx{Re: q.Im, Im: q.Re}
			case 2*u == n:
				want = api.Cx{Re: q.Re, Im: q.Re}
			}
			if e != api.OK || p != want {
				t.Errorf("point %d of 2^%d of a quarter is %v, not %v (error %d)", u, log, p, want, e)
			}
		}
	}
}

// P7.1: the same by hand.
func TestPointsOfQuartersByHand(t *testing.T) {
	if p, want := pointOf(4, 3), (api.Cx{Re: 50952413380203383, Im: 50952413380203383}); p != want {
		t.Errorf("the middle is %v, not %v", p, want)
	}
	if p, want := pointOf(4, 4), (api.Cx{Re: 66572536293650017, Im: 27575247414401904}); p != want {
		t.Errorf("the middle of the first half is %v, not %v", p, want)
	}
	if p, want := pointOf(12, 4), (api.Cx{Re: 27575247414401904, Im: 66572536293650017}); p != want {
		t.Errorf("the middle of the second half is %v, not %v", p, want)
	}
}
