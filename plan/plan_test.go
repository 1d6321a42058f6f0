package plan_test

import (
	"cmp"
	"math"
	"slices"
	"testing"

	"headroom/api"
	"headroom/plan"
)

// shape is what of a plan its passes hang on.
type shape struct {
	kernel int
	log    int
}

// passesByHand are the passes of all shapes that have some.
var passesByHand = map[shape][]api.Pass{
	{0, 2}: {{Kernel: 2, H: 1}, {Kernel: 2, H: 2}},
	{0, 3}: {{Kernel: 2, H: 1}, {Kernel: 2, H: 2}, {Kernel: 2, H: 4}},
	{0, 4}: {{Kernel: 2, H: 1}, {Kernel: 2, H: 2}, {Kernel: 2, H: 4}, {Kernel: 2, H: 8}},
	{0, 5}: {{Kernel: 2, H: 1}, {Kernel: 2, H: 2}, {Kernel: 2, H: 4}, {Kernel: 2, H: 8}, {Kernel: 2, H: 16}},
	{0, 6}: {{Kernel: 2, H: 1}, {Kernel: 2, H: 2}, {Kernel: 2, H: 4}, {Kernel: 2, H: 8}, {Kernel: 2, H: 16}, {Kernel: 2, H: 32}},
	{1, 2}: {{Kernel: 4, H: 1}},
	{1, 3}: {{Kernel: 2, H: 1}, {Kernel: 4, H: 2}},
	{1, 4}: {{Kernel: 4, H: 1}, {Kernel: 4, H: 4}},
	{1, 5}: {{Kernel: 2, H: 1}, {Kernel: 4, H: 2}, {Kernel: 4, H: 8}},
	{1, 6}: {{Kernel: 4, H: 1}, {Kernel: 4, H: 4}, {Kernel: 4, H: 16}},
}

// extremes are values that no field may have: far from all that it may, or the same as one of these in their last 8, 16 or 32 bits.
var extremes = []int{
	math.MinInt, math.MinInt + 1, math.MinInt + 2, -1 << 62, -1 << 32, -1<<32 + 1, -1 << 31, -256, -255,
	64, 128, 256, 257, 258, 259, 1 << 16, 1<<16 + 1, 1<<16 + 2, 1 << 31, 1 << 32, 1<<32 + 1, 1<<32 + 2, 1<<32 + 3,
	1 << 62, math.MaxInt - 1, math.MaxInt,
}

// fieldLimits are, of each field that is a number, how it is set, and the least and the greatest value that it may have.
var fieldLimits = []struct {
	name            string
	set             func(p *api.Plan, value int)
	least, greatest int
}{
	{"Format", func(p *api.Plan, value int) { p.Format = value }, 0, 1},
	{"Log", func(p *api.Plan, value int) { p.Log = value }, 2, 6},
	{"Kernel", func(p *api.Plan, value int) { p.Kernel = value }, 0, 2},
	{"Scale", func(p *api.Plan, value int) { p.Scale = value }, 0, 2},
	{"Mode", func(p *api.Plan, value int) { p.Mode = value }, 0, 2},
}

// both are the two values of Inverse, the less one first.
var both = []bool{false, true}

// boxed goes through plans with all values of the fields that may be, and with some more next to these.
func boxed(do func(p api.Plan)) {
	for format := -2; format <= 3; format++ {
		for log := -1; log <= 8; log++ {
			for kernel := -2; kernel <= 4; kernel++ {
				for scale := -2; scale <= 4; scale++ {
					for mode := -2; mode <= 4; mode++ {
						for _, inverse := range both {
							do(api.Plan{Format: format, Log: log, Kernel: kernel, Scale: scale, Mode: mode, Inverse: inverse})
						}
					}
				}
			}
		}
	}
}

// mayBe tells whether a plan may be, by the document's words.
func mayBe(p api.Plan) bool {
	switch {
	case p.Format != api.F15 && p.Format != api.F31:
		return false
	case p.Log < 2 || p.Log > 6:
		return false
	case p.Mode != api.MFloor && p.Mode != api.MUp && p.Mode != api.MEven:
		return false
	}
	switch p.Kernel {
	case api.KTwo, api.KFour:
		return p.Scale == api.SHalf || p.Scale == api.SBlock || p.Scale == api.SNone
	case api.KSplit:
		return p.Scale == api.SHalf
	}
	return false
}

// eachThatMayBe goes through the plans of the box that may be.
func eachThatMayBe(do func(p api.Plan)) {
	boxed(func(p api.Plan) {
		if mayBe(p) {
			do(p)
		}
	})
}

func passes(t *testing.T, p api.Plan) []api.Pass {
	t.Helper()
	all, e := plan.Passes(p)
	if e != api.OK {
		t.Fatalf("Passes of %v: error %d", p, e)
	}
	return all
}

func refused(t *testing.T, p api.Plan) {
	t.Helper()
	if e := plan.Check(p); e != api.ErrPlan {
		t.Errorf("Check of %v: error %d", p, e)
	}
	if all, e := plan.Passes(p); len(all) != 0 || e != api.ErrPlan {
		t.Errorf("Passes of %v are %v, error %d", p, all, e)
	}
}

// P13.1: plans that may be, and ones that may not, by hand.
func TestCheckByHand(t *testing.T) {
	for _, c := range []struct {
		p    api.Plan
		want api.Errno
	}{
		{api.Plan{Log: 2}, api.OK},
		{api.Plan{Log: 6, Format: api.F31, Kernel: api.KFour, Scale: api.SNone, Mode: api.MEven, Inverse: true}, api.OK},
		{api.Plan{Log: 3, Kernel: api.KTwo, Scale: api.SBlock, Mode: api.MUp}, api.OK},
		{api.Plan{Log: 5, Kernel: api.KSplit, Scale: api.SHalf, Inverse: true}, api.OK},
		{api.Plan{Log: 5, Kernel: api.KSplit, Scale: api.SBlock}, api.ErrPlan},
		{api.Plan{Log: 5, Kernel: api.KSplit, Scale: api.SNone, Inverse: true}, api.ErrPlan},
		{api.Plan{}, api.ErrPlan},
		{api.Plan{Log: 1}, api.ErrPlan},
		{api.Plan{Log: 7}, api.ErrPlan},
		{api.Plan{Log: 2, Format: 2}, api.ErrPlan},
		{api.Plan{Log: 2, Format: -1}, api.ErrPlan},
		{api.Plan{Log: 2, Kernel: 3}, api.ErrPlan},
		{api.Plan{Log: 2, Kernel: -1}, api.ErrPlan},
		{api.Plan{Log: 2, Scale: 3}, api.ErrPlan},
		{api.Plan{Log: 2, Scale: -1}, api.ErrPlan},
		{api.Plan{Log: 2, Mode: 3}, api.ErrPlan},
		{api.Plan{Log: 2, Mode: -1}, api.ErrPlan},
	} {
		if e := plan.Check(c.p); e != c.want {
			t.Errorf("Check of %v: error %d, not %d", c.p, e, c.want)
		}
	}
}

// P13.1, R2: of all plans of the box, those may be, and have passes, that the words tell; beside an error is nothing.
func TestCheckByWords(t *testing.T) {
	boxed(func(p api.Plan) {
		if !mayBe(p) {
			refused(t, p)
		} else if e := plan.Check(p); e != api.OK {
			t.Errorf("Check of %v: error %d", p, e)
		}
	})
}

// P13.1, P1: each field's values next to those that may be, and far from them, in all plans that may be but for it.
func TestCheckOfEachField(t *testing.T) {
	eachThatMayBe(func(p api.Plan) {
		for _, f := range fieldLimits {
			for _, value := range append([]int{f.least - 1, f.greatest + 1}, extremes...) {
				wrong := p
				f.set(&wrong, value)
				refused(t, wrong)
			}
		}
	})
}

// P13.1, P1: all fields at once may be far from what may be; passes of so great a Log would never end.
func TestCheckOfAllFields(t *testing.T) {
	for _, value := range extremes {
		refused(t, api.Plan{Format: value, Log: value, Kernel: value, Scale: value, Mode: value})
		refused(t, api.Plan{Format: value, Log: value, Kernel: value, Scale: value, Mode: value, Inverse: true})
	}
}

// P13.1: the document's example.
func TestPassesOfTheExample(t *testing.T) {
	want := []api.Pass{{Kernel: 2, H: 1}, {Kernel: 4, H: 2}, {Kernel: 4, H: 8}}
	if all := passes(t, api.Plan{Log: 5, Kernel: api.KFour}); !slices.Equal(all, want) {
		t.Errorf("passes are %v, not %v", all, want)
	}
}

// P13.1: the passes of all plans that may be; they hang on Kernel and Log alone, and of KSplit there are none.
func TestPassesByHand(t *testing.T) {
	eachThatMayBe(func(p api.Plan) {
		want := passesByHand[shape{p.Kernel, p.Log}]
		if all := passes(t, p); !slices.Equal(all, want) {
			t.Errorf("passes of %v are %v, not %v", p, all, want)
		}
	})
}

// P13.3: each pass's h is the one's ahead times its kernel, the first one's 1, and the last one's times its kernel is n.
func TestPassesGoFrom1ToN(t *testing.T) {
	for _, p := range plan.Every() {
		if p.Kernel == api.KSplit {
			continue
		}
		h := 1
		for i, pass := range passes(t, p) {
			if pass.H != h {
				t.Errorf("pass %d of %v is of %d, not of %d", i, p, pass.H, h)
			}
			h = pass.H * pass.Kernel
		}
		if h != 1<<p.Log {
			t.Errorf("the passes of %v go to %d", p, h)
		}
	}
}

// byFields holds two plans against each other by their first other field.
func byFields(a, b api.Plan) int {
	way := func(p api.Plan) int {
		if p.Inverse {
			return 1
		}
		return 0
	}
	return cmp.Or(
		cmp.Compare(a.Format, b.Format), cmp.Compare(a.Log, b.Log), cmp.Compare(a.Kernel, b.Kernel),
		cmp.Compare(a.Scale, b.Scale), cmp.Compare(a.Mode, b.Mode), cmp.Compare(way(a), way(b)),
	)
}

// P13.2: some of all plans by hand: how many there are, and those where a field changes.
func TestEveryByHand(t *testing.T) {
	every := plan.Every()
	if len(every) != 420 {
		t.Fatalf("there are %d plans", len(every))
	}
	for i, want := range map[int]api.Plan{
		0:   {Log: 2},
		1:   {Log: 2, Inverse: true},
		2:   {Log: 2, Mode: api.MUp},
		5:   {Log: 2, Mode: api.MEven, Inverse: true},
		6:   {Log: 2, Scale: api.SBlock},
		12:  {Log: 2, Scale: api.SNone},
		17:  {Log: 2, Scale: api.SNone, Mode: api.MEven, Inverse: true},
		18:  {Log: 2, Kernel: api.KFour},
		35:  {Log: 2, Kernel: api.KFour, Scale: api.SNone, Mode: api.MEven, Inverse: true},
		36:  {Log: 2, Kernel: api.KSplit},
		41:  {Log: 2, Kernel: api.KSplit, Mode: api.MEven, Inverse: true},
		42:  {Log: 3},
		168: {Log: 6},
		209: {Log: 6, Kernel: api.KSplit, Mode: api.MEven, Inverse: true},
		210: {Format: api.F31, Log: 2},
		419: {Format: api.F31, Log: 6, Kernel: api.KSplit, Mode: api.MEven, Inverse: true},
	} {
		if every[i] != want {
			t.Errorf("plan %d is %v, not %v", i, every[i], want)
		}
	}
}

// P13.2: all plans of the box that may be, by the words and by Check, sorted, are all plans that there are.
func TestEveryByWords(t *testing.T) {
	var byWords, byCheck []api.Plan
	boxed(func(p api.Plan) {
		if mayBe(p) {
			byWords = append(byWords, p)
		}
		if plan.Check(p) == api.OK {
			byCheck = append(byCheck, p)
		}
	})
	slices.SortFunc(byWords, byFields)
	slices.SortFunc(byCheck, byFields)
	every := plan.Every()
	if !slices.Equal(every, byWords) || !slices.Equal(every, byCheck) {
		t.Errorf("there are %d plans, by the words %d, by Check %d, or they are others", len(every), len(byWords), len(byCheck))
	}
}

// P13.2: each plan is there once, and of two that follow each other the first other field is less of the first one.
func TestEveryInOrder(t *testing.T) {
	every := plan.Every()
	for i := 1; i < len(every); i++ {
		if byFields(every[i-1], every[i]) >= 0 {
			t.Errorf("plan %d is %v, behind %v", i, every[i], every[i-1])
		}
	}
}

// R1, and the language's rule 7: a call tells the same, whatever was called ahead of it, and whatever was done with what it told.
func TestNothingIsKept(t *testing.T) {
	every := plan.Every()
	was := slices.Clone(every)
	for _, p := range was {
		first := passes(t, p)
		told := slices.Clone(first)
		clear(first[:cap(first)])
		refused(t, api.Plan{Format: p.Format, Log: p.Log + 5, Kernel: p.Kernel})
		if again := passes(t, p); !slices.Equal(again, told) {
			t.Errorf("passes of %v are first %v, then %v", p, told, again)
		}
	}
	clear(every[:cap(every)])
	if again := plan.Every(); !slices.Equal(again, was) {
		t.Errorf("first there are %d plans, then others: %d", len(was), len(again))
	}
}
