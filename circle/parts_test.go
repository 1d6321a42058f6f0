package circle

import (
	"math/big"
	"testing"

	"headroom/api"
	"headroom/arc"
)

// P6.2: the angles of an eighth's parts by themselves, as nearly all points are also those of the angles next to theirs: rounded down, held against numbers that can't run over.
func TestAnglesOfParts(t *testing.T) {
	for _, whole := range []int{0, 1, 7, 63, 64, 1<<56 - 1, arc.Quarter()} {
		for log := range api.MaxLog + 1 {
			angle := partsOf(whole, log)
			for k := range 1<<log + 1 {
				want := new(big.Int).Mul(big.NewInt(int64(whole)), big.NewInt(int64(k)))
				want.Quo(want, big.NewInt(1<<log))
				if told := angle(k); want.Cmp(big.NewInt(int64(told))) != 0 {
					t.Errorf("part %d of 2^%d of %d is %d, not %v", k, log, whole, told, want)
				}
			}
		}
	}
}

// P6.2: the same by hand: of Quarter's parts of 8, those of odd numbers leave something; it is rounded off down, and does not add up from part to part.
func TestAnglesOfPartsByHand(t *testing.T) {
	angle := partsOf(arc.Quarter(), 3)
	for k, want := range []int{
		0, 7074237752028440, 14148475504056880, 21222713256085320, 28296951008113761,
		35371188760142201, 42445426512170641, 49519664264199081, 56593902016227522,
	} {
		if told := angle(k); told != want {
			t.Errorf("part %d of 8 is %d, not %d", k, told, want)
		}
	}
}
