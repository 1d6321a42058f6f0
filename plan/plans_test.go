package plan

import (
	"slices"
	"testing"

	"headroom/api"
)

// Who goes through the plans may end ahead of the last one: then no other follows.
func TestPlansEndWhenAsked(t *testing.T) {
	every := Every()
	for most := 1; most <= len(every); most++ {
		var gone []api.Plan
		for p := range plans() {
			gone = append(gone, p)
			if len(gone) == most {
				break
			}
		}
		if !slices.Equal(gone, every[:most]) {
			t.Errorf("the first %d plans are %v", most, gone)
		}
	}
}

// P13.2: plans gone through a second time are the same again.
func TestPlansComeAgain(t *testing.T) {
	all := plans()
	if first, again := slices.Collect(all), slices.Collect(all); len(first) == 0 || !slices.Equal(first, again) {
		t.Errorf("first there are %d plans, then %d", len(first), len(again))
	}
}
