package dft

import (
	"testing"

	"headroom/api"
	"headroom/roots"
)

// The way 'array': a root's halves make up the root, and the lower one is not below 0, and less than 2^20.
func TestHalvesMakeUpRoots(t *testing.T) {
	for log := api.MinLog; log <= api.MaxLog; log++ {
		table, e := roots.Table(log, rootBits)
		if e != api.OK {
			t.Fatalf("Table of 2^%d: error %d", log, e)
		}
		for k, w := range table {
			h := halvesOf(w)
			if h[0].Re<<20+h[1].Re != w.Re || h[0].Im<<20+h[1].Im != w.Im {
				t.Errorf("root %d of 2^%d is %v, and its halves are %v", k, log, w, h)
			}
			if min(h[1].Re, h[1].Im) < 0 || max(h[1].Re, h[1].Im) >= 1<<20 {
				t.Errorf("root %d of 2^%d has the halves %v", k, log, h)
			}
		}
	}
}

// P16.1: a sum is rounded down once, at both sides of where its lower half carries over.
func TestSumsAreToldByHand(t *testing.T) {
	for _, c := range []struct{ upper, lower, want int }{
		{0, 0, 0}, {0, 1, 0}, {0, -1, -1}, {0, 1<<32 - 1, 0}, {0, 1 << 32, 1}, {0, -1 << 32, -1}, {0, -1<<32 - 1, -2},
		{4095, 0, 0}, {4095, 1<<20 - 1, 0}, {4095, 1 << 20, 1}, {4096, 0, 1}, {4096, -1, 0}, {-4096, 0, -1}, {-4096, -1, -2}, {-4096, 1<<32 - 1, -1}, {-4096, 1 << 32, 0},
		{-1, 1<<20 - 1, -1}, {-1, 1 << 20, 0}, {1, -1 << 20, 0}, {1, -1<<20 - 1, -1},
		{1 << 58, 1 << 58, 1<<46 + 1<<26}, {-1 << 58, -1 << 58, -1<<46 - 1<<26}, {-1 << 58, 1<<58 - 1, -1<<46 + 1<<26 - 1}, {1 << 58, -1, 1<<46 - 1},
	} {
		sum := halves{{Re: c.upper, Im: -5}, {Re: c.lower, Im: 3 << 20}}
		if z := sum.told(); z != (api.Cx{Re: c.want, Im: -1}) {
			t.Errorf("%d and %d are told as %v, not %d", c.upper, c.lower, z, c.want)
		}
		sum = halves{{Re: 4097, Im: c.upper}, {Re: -1 << 20, Im: c.lower}}
		if z := sum.told(); z != (api.Cx{Re: 1, Im: c.want}) {
			t.Errorf("%d and %d are told as %v, not %d", c.upper, c.lower, z, c.want)
		}
	}
}
