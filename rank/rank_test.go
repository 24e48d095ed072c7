package rank

import (
	"fmt"
	"math"
	"testing"
)

var (
	all      = []Section{Answer, Authority, Additional}
	isRanks  = []int{1, 2, 3, 4, 5}
	noRanks  = []int{math.MinInt, math.MinInt + 1, -1 << 32, -5, -1, 0, 6, 7, 1<<32 + 3, math.MaxInt - 1, math.MaxInt}
	anyRanks = append(append([]int{}, isRanks...), noRanks...)
)

// The numbers of the sections are those that the chapter lists.
func TestSectionsAreCounted(t *testing.T) {
	for i, s := range all {
		if int(s) != i {
			t.Errorf("section %d has the number %d", i, s)
		}
	}
}

// P11.1
func TestRank(t *testing.T) {
	for _, c := range []struct {
		section Section
		aa      bool
		want    int
	}{
		{Answer, true, 5},
		{Answer, false, 3},
		{Authority, true, 4},
		{Authority, false, 1},
		{Additional, true, 2},
		{Additional, false, 1},
	} {
		if got := c.section.Rank(c.aa); got != c.want {
			t.Errorf("section %d, %v: %d, want %d", c.section, c.aa, got, c.want)
		}
	}
}

// P11.1: sections that are none.
func TestRankOfAnother(t *testing.T) {
	for _, s := range []Section{math.MinInt, -1 << 32, -3, -2, -1, 3, 4, 5, 1 << 32, 1<<32 + 1, math.MaxInt} {
		for _, aa := range []bool{false, true} {
			if got := s.Rank(aa); got != 0 {
				t.Errorf("section %d, %v: %d", s, aa, got)
			}
		}
	}
}

// P11.2: each rank over each that is live, row by row: from the rank old of that row on.
func TestOverLive(t *testing.T) {
	for _, c := range []struct {
		old  int
		want [5]bool
	}{
		{math.MinInt, [5]bool{true, true, true, true, true}},
		{-1, [5]bool{true, true, true, true, true}},
		{0, [5]bool{true, true, true, true, true}},
		{1, [5]bool{true, true, true, true, true}},
		{2, [5]bool{false, true, true, true, true}},
		{3, [5]bool{false, false, true, true, true}},
		{4, [5]bool{false, false, false, true, true}},
		{5, [5]bool{false, false, false, false, true}},
		{6, [5]bool{}},
		{math.MaxInt, [5]bool{}},
	} {
		for i, want := range c.want {
			if got := Over(c.old, true, i+1); got != want {
				t.Errorf("Over(%d, true, %d) = %v", c.old, i+1, got)
			}
		}
	}
}

// P11.2: what does not live any more gives way to any rank.
func TestOverDead(t *testing.T) {
	for _, old := range anyRanks {
		for _, now := range isRanks {
			if !Over(old, false, now) {
				t.Errorf("Over(%d, false, %d) = false", old, now)
			}
		}
	}
}

// P11.2: what is no rank takes nobody's place.
func TestOverByNoRank(t *testing.T) {
	for _, old := range anyRanks {
		for _, now := range noRanks {
			for _, live := range []bool{false, true} {
				if Over(old, live, now) {
					t.Errorf("Over(%d, %v, %d) = true", old, live, now)
				}
			}
		}
	}
}

// P11.3
func TestTold(t *testing.T) {
	for r, want := range []bool{false, false, false, true, true, true, false, false} {
		if got := Told(r); got != want {
			t.Errorf("Told(%d) = %v", r, got)
		}
	}
	for _, r := range noRanks {
		if Told(r) {
			t.Errorf("Told(%d) = true", r)
		}
	}
}

// P11.4: with authority nothing is believed less; all that a section has is a rank.
func TestAuthorityIsBelieved(t *testing.T) {
	for _, s := range all {
		without, with := s.Rank(false), s.Rank(true)
		if with < without || without < 1 || with > 5 {
			t.Errorf("section %d: %d, with authority %d", s, without, with)
		}
		if !Over(without, true, with) {
			t.Errorf("section %d: with authority it does not take the place", s)
		}
	}
}

// P11.4: of two that are live one takes the place of the other; both, if they are alike.
func TestOneOfTwo(t *testing.T) {
	for _, a := range isRanks {
		for _, b := range isRanks {
			over, under := Over(a, true, b), Over(b, true, a)
			if !over && !under || over && under != (a == b) {
				t.Errorf("%d and %d: %v, %v", a, b, over, under)
			}
		}
	}
}

func ExampleSection_Rank() {
	glue := Additional.Rank(false)
	fmt.Println(glue, Told(glue))
	// Output: 1 false
}
