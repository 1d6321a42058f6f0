package gain_test

import (
	"math"
	"math/big"
	"slices"
	"testing"

	"headroom/api"
	"headroom/arc"
	"headroom/gain"
)

// The edges that the document names, and how much may be left of an angle.
const (
	one      = 1 << 56
	longest  = 1 << 57
	farthest = 1 << 56
	mostLeft = 1 << 13
)

// stepAngles are the steps' angles, by the Arcs of whole numbers that the document names.
func stepAngles(t *testing.T) []int {
	t.Helper()
	all := []int{arc.Quarter()}
	for i := 1; i <= 44; i++ {
		angle, e := arc.Arc(1 << i)
		if e != api.OK {
			t.Fatalf("Arc of 2^%d: error %d", i, e)
		}
		all = append(all, angle)
	}
	return all
}

// lengths are those at both ends, near the powers of 2, and some between, in order.
func lengths() []int {
	all := []int{0, 1, 2, 3, longest - 1, longest, 1234567890123456, 98765432109876543, 3 << 54}
	for k := 2; k < 57; k++ {
		all = append(all, 1<<k-1, 1<<k, 1<<k+1)
	}
	slices.Sort(all)
	return slices.Compact(all)
}

// angles are those at both ends, near 0, near the powers of 2, near where nothing is left behind some steps, and evenly between; in order.
func angles(t *testing.T) []int {
	t.Helper()
	all := []int{0, farthest, farthest - 1}
	for k := range 56 {
		all = append(all, 1<<k-1, 1<<k, 1<<k+1)
	}
	turned := 0
	for i, angle := range stepAngles(t) {
		all = append(all, angle, angle-1, angle+1)
		if i == 0 {
			turned = angle
			continue
		}
		for _, z := range []int{turned + angle, turned - angle} {
			all = append(all, z-1, z, z+1)
		}
		turned -= angle
	}
	for k := range 200 {
		all = append(all, farthest/200*k)
	}
	for _, z := range slices.Clone(all) {
		all = append(all, -z)
	}
	all = slices.DeleteFunc(all, func(z int) bool { return z < -farthest || z > farthest })
	slices.Sort(all)
	return slices.Compact(all)
}

// exactRun is the turn of the document's words, by numbers of any size.
func exactRun(x, z int, steps []int) (re, im, left *big.Int) {
	re, im, left = big.NewInt(int64(x)), new(big.Int), big.NewInt(int64(z))
	for i, angle := range steps {
		power := new(big.Int).Exp(big.NewInt(2), big.NewInt(int64(i)), nil)
		// By a divisor above 0, Div rounds down.
		a, b, by := new(big.Int).Div(re, power), new(big.Int).Div(im, power), big.NewInt(int64(angle))
		if left.Sign() >= 0 {
			re.Sub(re, b)
			im.Add(im, a)
			left.Sub(left, by)
		} else {
			re.Add(re, b)
			im.Sub(im, a)
			left.Add(left, by)
		}
	}
	return re, im, left
}

func run(t *testing.T, x, z int) (api.Cx, int) {
	t.Helper()
	at, left, e := gain.Run(x, z)
	if e != api.OK {
		t.Fatalf("Run of %d by %d: error %d", x, z, e)
	}
	return at, left
}

func same(n *big.Int, told int) bool { return n.Cmp(big.NewInt(int64(told))) == 0 }

// P5.1: the steps' angles by hand. From step 19 on the Arc of 2^i is one term; that of step 18 has another one, -1.
func TestAnglesByHand(t *testing.T) {
	all := gain.Angles()
	if len(all) != 45 {
		t.Fatalf("%d steps", len(all))
	}
	for step, want := range map[int]int{0: 56593902016227522, 1: 33409331186036029, 16: 1<<40 - 85, 18: 1<<38 - 1} {
		if all[step] != want {
			t.Errorf("the angle of step %d is %d, not %d", step, all[step], want)
		}
	}
	for step := 19; step < len(all); step++ {
		if all[step] != 1<<(56-step) {
			t.Errorf("the angle of step %d is %d, not %d", step, all[step], 1<<(56-step))
		}
	}
}

// P5.1: the steps' angles, in order, are Quarter and the Arcs of the powers of 2.
func TestAnglesAreArcs(t *testing.T) {
	if all, want := gain.Angles(), stepAngles(t); !slices.Equal(all, want) {
		t.Errorf("Angles are %v, not %v", all, want)
	}
}

// P5.1: Gain and Inverse, by hand, and by numbers of any size.
func TestGainAndInverse(t *testing.T) {
	if g := gain.Gain(); g != 118661582157481174 {
		t.Errorf("Gain is %d", g)
	}
	if n := gain.Inverse(); n != 43757185469210200 {
		t.Errorf("Inverse is %d", n)
	}
	if re, _, _ := exactRun(one, 0, stepAngles(t)); !same(re, gain.Gain()) {
		t.Errorf("Gain is %d, not %v", gain.Gain(), re)
	}
	square := new(big.Int).Lsh(big.NewInt(1), 112)
	if want := square.Quo(square, big.NewInt(int64(gain.Gain()))); !same(want, gain.Inverse()) {
		t.Errorf("Inverse is %d, not %v", gain.Inverse(), want)
	}
}

// P5.2: the document's example: no length is turned to none, by any angle.
func TestNoLength(t *testing.T) {
	for _, z := range angles(t) {
		if at, _ := run(t, 0, z); at != (api.Cx{}) {
			t.Errorf("Run of 0 by %d ends at %v", z, at)
		}
	}
}

// P5.2: the least length by hand. By -1 it goes to 1-i in the first step. Then a is 0 at each step, as Re is less than 2^i; and b is -1, which is -1 divided by 2^i and rounded down: Re goes by 1 each step, up if what is left is 0 or more.
func TestLeastLengthByHand(t *testing.T) {
	steps := stepAngles(t)
	left, re := -1+steps[0], 1
	for _, angle := range steps[1:] {
		if left >= 0 {
			re, left = re+1, left-angle
		} else {
			re, left = re-1, left+angle
		}
	}
	if at, told := run(t, 1, -1); at != (api.Cx{Re: re, Im: -1}) || told != left || re != 7 || left != 2190 {
		t.Errorf("Run of 1 by -1 ends at %v, left %d; by hand it is %d-i, left %d", at, told, re, left)
	}
	// By 0 it goes to 1+i first; a and b are 0 from there on.
	if at, told := run(t, 1, 0); at != (api.Cx{Re: 1, Im: 1}) || told != -2191 {
		t.Errorf("Run of 1 by 0 ends at %v, left %d", at, told)
	}
}

// P5.2: where nothing is left, the next step turns as it does where something is left above 0. By Quarter the first step goes to 4+4i and leaves nothing; the second one goes up, to 2+6i, the third one down, to 3+6i; from there on a and b are 0. By 1 less than Quarter the second step goes down, to 6+2i, and the third one up, to 6+3i.
func TestNothingLeftGoesUp(t *testing.T) {
	q := arc.Quarter()
	for z, want := range map[int]api.Cx{q + 1: {Re: 3, Im: 6}, q: {Re: 3, Im: 6}, q - 1: {Re: 6, Im: 3}} {
		if at, _ := run(t, 4, z); at != want {
			t.Errorf("Run of 4 by %d ends at %v, not %v", z, at, want)
		}
	}
}

// P5.2, R5: turns of lengths and angles of all kinds, both ends among them, held against numbers that can't run over.
func TestTurnsAreExact(t *testing.T) {
	steps := stepAngles(t)
	all := angles(t)
	for i, x := range lengths() {
		for j, z := range all {
			ends := x >= longest-1 || x == one || z <= 1-farthest || z >= farthest-1
			if !ends && (i+j)%5 != 0 {
				continue
			}
			at, left := run(t, x, z)
			re, im, rest := exactRun(x, z, steps)
			if !same(re, at.Re) || !same(im, at.Im) || !same(rest, left) {
				t.Fatalf("Run of %d by %d ends at %v, left %d; it is %v, %v, left %v", x, z, at, left, re, im, rest)
			}
		}
	}
}

// P5.2: a turn ends where the circle's point of the angle lies, Gain times as far.
func TestTurnsAreTurns(t *testing.T) {
	for _, x := range []int{0, one, longest, 3 << 54} {
		far := float64(x) * float64(gain.Gain()) / one
		for _, z := range angles(t) {
			at, _ := run(t, x, z)
			im, re := math.Sincos(float64(z) / one)
			if math.Abs(float64(at.Re)-far*re) > 1<<16 || math.Abs(float64(at.Im)-far*im) > 1<<16 {
				t.Errorf("Run of %d by %d ends at %v, the point is at %.0f, %.0f", x, z, at, far*re, far*im)
			}
		}
	}
}

// P5.2, R2, P1: a length or an angle that may not be is told, and beside that is nothing.
func TestErrRange(t *testing.T) {
	extremes := []int{math.MinInt, math.MinInt + 1, -1 << 62, 1 << 62, math.MaxInt - 1, math.MaxInt}
	wrongLengths := append([]int{-1, -2, -one, -longest, longest + 1, 2 * longest}, extremes...)
	wrongAngles := append([]int{-farthest - 1, farthest + 1, -2 * farthest, 2 * farthest}, extremes...)
	refused := func(x, z int) {
		t.Helper()
		if at, left, e := gain.Run(x, z); at != (api.Cx{}) || left != 0 || e != api.ErrRange {
			t.Errorf("Run of %d by %d ends at %v, left %d, error %d", x, z, at, left, e)
		}
	}
	for _, x := range wrongLengths {
		for _, z := range []int{0, 1, -1, farthest, -farthest} {
			refused(x, z)
		}
		for _, z := range wrongAngles {
			refused(x, z)
		}
	}
	for _, z := range wrongAngles {
		for _, x := range []int{0, 1, one, longest} {
			refused(x, z)
		}
	}
}

// P5.2: both ends may be.
func TestEndsMayBe(t *testing.T) {
	for _, x := range []int{0, longest} {
		for _, z := range []int{-farthest, farthest} {
			run(t, x, z)
		}
	}
}

// P5.3: what is left is not more than 2^13, either way, and does not hang on the length.
func TestLittleIsLeft(t *testing.T) {
	held := func(z int) {
		t.Helper()
		_, left := run(t, one, z)
		if left < -mostLeft || left > mostLeft {
			t.Fatalf("of %d %d is left", z, left)
		}
		if _, other := run(t, 3, z); other != left {
			t.Fatalf("of %d %d is left, by another length %d", z, left, other)
		}
	}
	for _, z := range angles(t) {
		held(z)
	}
	const parts = 20011
	for k := -parts; k <= parts; k++ {
		held(farthest / parts * k)
	}
	for z := -5000; z <= 5000; z++ {
		held(z)
	}
}

// P5.3: so it is of every angle that may be: what a step leaves is, without its sign, not more than what there was less the step's angle, or that angle less what there was.
func TestLittleIsLeftOfAnyAngle(t *testing.T) {
	most := farthest
	for _, angle := range gain.Angles() {
		most = max(most-angle, angle)
	}
	if most > mostLeft {
		t.Errorf("%d may be left", most)
	}
}

// P5.3: Gain's thousandths are 1646; Inverse times Gain is not more than 2^112, and with 1 more it is.
func TestGainFollows(t *testing.T) {
	g, inverse := big.NewInt(int64(gain.Gain())), big.NewInt(int64(gain.Inverse()))
	thousandths := new(big.Int).Mul(g, big.NewInt(1000))
	if thousandths.Rsh(thousandths, 56).Cmp(big.NewInt(1646)) != 0 {
		t.Errorf("Gain's thousandths are %v", thousandths)
	}
	square := new(big.Int).Lsh(big.NewInt(1), 112)
	product := new(big.Int).Mul(inverse, g)
	if product.Cmp(square) > 0 {
		t.Errorf("Inverse times Gain is %v", product)
	}
	if product.Add(product, g).Cmp(square) <= 0 {
		t.Errorf("Inverse and 1 more times Gain is %v", product)
	}
}

// R1: a call tells the same, whatever was called ahead of it, and whatever was done with the list that it told.
func TestNothingIsKept(t *testing.T) {
	type answer struct {
		at            api.Cx
		left          int
		e             api.Errno
		gain, inverse int
	}
	ask := func(x, z int) answer {
		var a answer
		a.at, a.left, a.e = gain.Run(x, z)
		a.gain, a.inverse = gain.Gain(), gain.Inverse()
		return a
	}
	asked := [][2]int{{one, 0}, {-1, 0}, {longest, -farthest}, {one, farthest + 1}, {7, 12345}, {0, 0}, {one, 0}}
	first := make([]answer, len(asked))
	for i, c := range asked {
		first[i] = ask(c[0], c[1])
	}
	told := gain.Angles()
	clear(told)
	if again := gain.Angles(); !slices.Equal(again, stepAngles(t)) {
		t.Errorf("Angles are %v behind a change of the list", again)
	}
	for i := len(asked) - 1; i >= 0; i-- {
		if again := ask(asked[i][0], asked[i][1]); again != first[i] {
			t.Errorf("%v: first %v, then %v", asked[i], first[i], again)
		}
	}
}
