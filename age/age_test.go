package age

import (
	"fmt"
	"math"
	"math/big"
	"math/rand"
	"testing"
)

const (
	week = 604800
	top  = 1099511627776
)

var (
	times   = []int{0, 1, 2, 5, 12, week - 1, week, week + 1, 1<<31 - 1, 1 << 31, 1<<32 + 7, top - week - 1, top - week, top - week + 1, top - 1, top}
	noTimes = []int{math.MinInt, math.MinInt + 1, math.MinInt + week, -top, -week, -2, -1, top + 1, top + week, 2 * top, math.MaxInt - week, math.MaxInt - 1, math.MaxInt}
	numbers = append(append([]int{}, times...), noTimes...)
)

// near tells numbers that are close to those of the lists above, and far ones.
func near(draw *rand.Rand) int {
	if draw.Intn(8) == 0 {
		return int(draw.Uint64())
	}
	return numbers[draw.Intn(len(numbers))] + draw.Intn(5) - 2
}

// sum and less do not wrap round, whatever the numbers are.
func sum(a int, b int) *big.Int { return new(big.Int).Add(big.NewInt(int64(a)), big.NewInt(int64(b))) }

func less(a int, b int) *big.Int {
	return new(big.Int).Sub(big.NewInt(int64(a)), big.NewInt(int64(b)))
}

func is(n int, want *big.Int) bool { return big.NewInt(int64(n)).Cmp(want) == 0 }

func isIn(n int, least int, most int) bool { return n >= least && n <= most }

func checkUntil(t *testing.T, now int, ttl int) {
	t.Helper()
	want := big.NewInt(-1)
	if isIn(now, 0, top) && ttl >= 0 {
		if ttl > week {
			want = sum(now, week)
		} else {
			want = sum(now, ttl)
		}
	}
	if got := Until(now, ttl); !is(got, want) {
		t.Errorf("Until(%d, %d) = %d, want %v", now, ttl, got, want)
	}
}

func checkLeft(t *testing.T, now int, until int) {
	t.Helper()
	live := isIn(now, 0, top) && until > now
	want := new(big.Int)
	if live {
		want = less(until, now)
	}
	if want.Cmp(big.NewInt(week)) > 0 {
		want = big.NewInt(week)
	}
	if got := Live(now, until); got != live {
		t.Errorf("Live(%d, %d) = %v", now, until, got)
	}
	if got := Left(now, until); !is(got, want) {
		t.Errorf("Left(%d, %d) = %d, want %v", now, until, got, want)
	}
}

func checkDue(t *testing.T, now int, wait int) {
	t.Helper()
	want := sum(now, wait)
	due := isIn(now, 0, top) && isIn(wait, 0, top) && want.Cmp(big.NewInt(top)) <= 0
	if !due {
		want = new(big.Int)
	}
	if got, ok := Due(now, wait); !is(got, want) || ok != due {
		t.Errorf("Due(%d, %d) = %d, %v, want %v, %v", now, wait, got, ok, want, due)
	}
}

// P12.1 to P12.3: any two of many numbers, at the edges and beyond them.
func TestEdges(t *testing.T) {
	for _, a := range numbers {
		for _, b := range numbers {
			checkUntil(t, a, b)
			checkLeft(t, a, b)
			checkDue(t, a, b)
		}
	}
}

// P12.1 to P12.3: numbers that are drawn.
func TestDrawn(t *testing.T) {
	draw := rand.New(rand.NewSource(12))
	for range 100000 {
		a, b := near(draw), near(draw)
		checkUntil(t, a, b)
		checkLeft(t, a, b)
		checkDue(t, a, b)
	}
}

// P12.1
func TestUntil(t *testing.T) {
	for _, c := range [][3]int{
		{0, 0, 0},
		{10, 0, 10},
		{10, 5, 15},
		{10, week - 1, 604809},
		{10, week, 604810},
		{10, week + 1, 604810},
		{10, math.MaxInt, 604810},
		{top, 0, top},
		{top, week, top + week},
		{top, math.MaxInt, top + week},
		{top + 1, 0, -1},
		{-1, 0, -1},
		{-1, 5, -1},
		{0, -1, -1},
		{10, -1, -1},
		{10, math.MinInt, -1},
		{math.MaxInt, math.MaxInt, -1},
		{math.MinInt, math.MinInt, -1},
	} {
		if got := Until(c[0], c[1]); got != c[2] {
			t.Errorf("Until(%d, %d) = %d, want %d", c[0], c[1], got, c[2])
		}
	}
}

// P12.2
func TestLeft(t *testing.T) {
	for _, c := range []struct {
		now, until int
		live       bool
		left       int
	}{
		{0, 0, false, 0},
		{0, 1, true, 1},
		{12, 15, true, 3},
		{14, 15, true, 1},
		{15, 15, false, 0},
		{16, 15, false, 0},
		{0, week, true, week},
		{0, week + 1, true, week},
		{7, math.MaxInt, true, week},
		{top, top, false, 0},
		{top, top + 1, true, 1},
		{top, top + week, true, week},
		{top + 1, top + 2, false, 0},
		{-1, 0, false, 0},
		{-1, 5, false, 0},
		{5, -1, false, 0},
		{0, math.MinInt, false, 0},
		{math.MinInt, math.MaxInt, false, 0},
		{math.MaxInt - 1, math.MaxInt, false, 0},
	} {
		if live, left := Live(c.now, c.until), Left(c.now, c.until); live != c.live || left != c.left {
			t.Errorf("at %d, until %d: %v, %d, want %v, %d", c.now, c.until, live, left, c.live, c.left)
		}
	}
}

// P12.3
func TestDue(t *testing.T) {
	for _, c := range []struct {
		now, wait, want int
		is              bool
	}{
		{0, 0, 0, true},
		{10, 5, 15, true},
		{10, week + 1, 604811, true},
		{0, top, top, true},
		{top, 0, top, true},
		{top - 5, 5, top, true},
		{top - 5, 6, 0, false},
		{1, top, 0, false},
		{top, 1, 0, false},
		{top, top, 0, false},
		{0, top + 1, 0, false},
		{top + 1, 0, 0, false},
		{10, -1, 0, false},
		{-1, 10, 0, false},
		{-1, 0, 0, false},
		{top + 1, -1, 0, false},
		{-1, top + 1, 0, false},
		{10, math.MaxInt, 0, false},
		{math.MaxInt, math.MaxInt, 0, false},
		{math.MinInt, math.MinInt, 0, false},
	} {
		if got, is := Due(c.now, c.wait); got != c.want || is != c.is {
			t.Errorf("Due(%d, %d) = %d, %v, want %d, %v", c.now, c.wait, got, is, c.want, c.is)
		}
	}
}

// P12.4: what is left is never more than it was, from one time to any later one.
func TestLeftIsNeverMore(t *testing.T) {
	for _, until := range numbers {
		for i, now := range times {
			for _, later := range times[i:] {
				if was, left := Left(now, until), Left(later, until); left > was {
					t.Errorf("until %d: %d left at %d, %d at %d", until, was, now, left, later)
				}
			}
		}
	}
}

// P12.4: what lived so long from now on has so long left, and one less a second later.
func TestLivesSoLong(t *testing.T) {
	for _, now := range times {
		for _, ttl := range []int{0, 1, 2, 60, week - 1, week} {
			until := Until(now, ttl)
			if left := Left(now, until); left != ttl || Live(now, until) != (ttl > 0) {
				t.Errorf("%d from %d on: %d left", ttl, now, left)
			}
			if left := Left(now+1, until); now < top && left != max(ttl-1, 0) {
				t.Errorf("%d from %d on: %d left a second later", ttl, now, left)
			}
			if Live(until, until) || now < until && until-1 <= top && !Live(until-1, until) {
				t.Errorf("%d from %d on: %d is not the first time without it", ttl, now, until)
			}
		}
	}
}

func ExampleLeft() {
	until := Until(10, 5)
	fmt.Println(until, Left(12, until))
	// Output: 15 3
}
