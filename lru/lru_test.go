package lru

import (
	"errors"
	"fmt"
	"math"
	"math/rand"
	"slices"
	"testing"
)

type pair struct {
	text string
	n    int
}

// holder may hold what can't be held against anything.
type holder struct {
	n    int
	what any
}

func same[K comparable](t *testing.T, what string, got []K, want []K) {
	t.Helper()
	if !slices.Equal(got, want) {
		t.Errorf("%s: %v, want %v", what, got, want)
	}
}

// P13.1: none, one, the first, one between, the last, one that is not there, and one that is there more than once.
func TestTouchAndDrop(t *testing.T) {
	for _, c := range []struct {
		l           []int
		k           int
		touch, drop []int
	}{
		{nil, 0, []int{0}, nil},
		{[]int{}, 1, []int{1}, nil},
		{[]int{1}, 1, []int{1}, nil},
		{[]int{1}, 2, []int{1, 2}, []int{1}},
		{[]int{1}, 0, []int{1, 0}, []int{1}},
		{[]int{1, 2, 3}, 1, []int{2, 3, 1}, []int{2, 3}},
		{[]int{1, 2, 3}, 2, []int{1, 3, 2}, []int{1, 3}},
		{[]int{1, 2, 3}, 3, []int{1, 2, 3}, []int{1, 2}},
		{[]int{1, 2, 3}, 4, []int{1, 2, 3, 4}, []int{1, 2, 3}},
		{[]int{3, 1, 2}, 1, []int{3, 2, 1}, []int{3, 2}},
		{[]int{7, 1, 7, 7, 2, 7}, 7, []int{1, 2, 7}, []int{1, 2}},
		{[]int{7, 1, 7, 1, 2}, 2, []int{7, 1, 7, 1, 2}, []int{7, 1, 7, 1}},
		{[]int{7, 7, 7}, 7, []int{7}, nil},
		{[]int{math.MinInt, 0, math.MaxInt}, math.MinInt, []int{0, math.MaxInt, math.MinInt}, []int{0, math.MaxInt}},
	} {
		same(t, fmt.Sprintf("Touch(%v, %d)", c.l, c.k), Touch(c.l, c.k), c.touch)
		same(t, fmt.Sprintf("Drop(%v, %d)", c.l, c.k), Drop(c.l, c.k), c.drop)
	}
}

// P13.1: of other types; all of what a thing has counts.
func TestOtherTypes(t *testing.T) {
	same(t, "texts", Touch([]string{"", "a", "A", "\x00"}, "a"), []string{"", "A", "\x00", "a"})
	same(t, "texts", Drop([]string{"", "a", "A", "\x00"}, ""), []string{"a", "A", "\x00"})
	l := []pair{{"a", 1}, {"a", 2}, {"b", 1}}
	same(t, "structs", Touch(l, pair{"a", 2}), []pair{{"a", 1}, {"b", 1}, {"a", 2}})
	same(t, "structs", Drop(l, pair{"b", 2}), l)
	same(t, "arrays", Drop([][2]int{{1, 2}, {2, 1}}, [2]int{1, 2}), [][2]int{{2, 1}})
	one, other := new(int), new(int)
	same(t, "pointers", Touch([]*int{one, nil, other}, one), []*int{nil, other, one})
	e, f := errors.New("x"), errors.New("x")
	same(t, "errors", Touch([]error{e, nil, f}, nil), []error{e, f, nil})
	same(t, "errors", Drop([]error{e, nil, f}, e), []error{nil, f})
	same(t, "zeros", Drop([]float64{0, 1}, math.Copysign(0, -1)), []float64{1})
	if !Check(l) || Check(append(l, pair{"a", 2})) || Check([]error{nil, e, nil}) || !Check([]error{e, f}) || Check([]float64{0, math.Copysign(0, -1)}) {
		t.Error("Check of other types")
	}
}

// P13.2
func TestOldest(t *testing.T) {
	for _, c := range []struct {
		l    []string
		want string
		is   bool
	}{
		{nil, "", false},
		{[]string{}, "", false},
		{[]string{"a"}, "a", true},
		{[]string{""}, "", true},
		{[]string{"", "a"}, "", true},
		{[]string{"b", "a"}, "b", true},
		{[]string{"b", "a", "b"}, "b", true},
	} {
		if got, is := Oldest(c.l); got != c.want || is != c.is {
			t.Errorf("Oldest(%q) = %q, %v", c.l, got, is)
		}
	}
	// What is behind the end of a list is none of it.
	if k, is := Oldest([]int{7, 8}[:0]); k != 0 || is {
		t.Errorf("Oldest of nothing = %d, %v", k, is)
	}
	if k, is := Oldest[*pair](nil); k != nil || is {
		t.Errorf("Oldest of nothing = %v, %v", k, is)
	}
}

// P13.2: each list of up to five, cut at each place, and far beyond.
func TestCut(t *testing.T) {
	for long := range 6 {
		var l []int
		for i := range long {
			l = append(l, i*i)
		}
		for _, most := range []int{math.MinInt, math.MinInt + 1, -6, -5, -1, 0, 1, 2, 3, 4, 5, 6, 1 << 32, math.MaxInt - 1, math.MaxInt} {
			var last, ahead []int
			for i, k := range l {
				if long-i <= most {
					last = append(last, k)
				} else {
					ahead = append(ahead, k)
				}
			}
			gotLast, gotAhead := Cut(l, most)
			same(t, fmt.Sprintf("Cut(%v, %d), the last", l, most), gotLast, last)
			same(t, fmt.Sprintf("Cut(%v, %d), ahead", l, most), gotAhead, ahead)
		}
	}
	last, ahead := Cut([]string{"b", "a", "b", "c"}, 2)
	same(t, "the last", last, []string{"b", "c"})
	same(t, "ahead", ahead, []string{"b", "a"})
}

// P13.3
func TestCheck(t *testing.T) {
	for _, c := range []struct {
		l    []int
		want bool
	}{
		{nil, true},
		{[]int{}, true},
		{[]int{0}, true},
		{[]int{0, 0}, false},
		{[]int{0, 1}, true},
		{[]int{1, 2, 3}, true},
		{[]int{1, 1, 2}, false},
		{[]int{1, 2, 1}, false},
		{[]int{1, 2, 2}, false},
		{[]int{1, 2, 3, 4, 5, 6, 7, 8, 1}, false},
		{[]int{0, -1, 1, math.MinInt, math.MaxInt}, true},
	} {
		if got := Check(c.l); got != c.want {
			t.Errorf("Check(%v) = %v", c.l, got)
		}
	}
}

// R1: what can't be held against anything, and what is not equal to itself, is nobody's like.
func TestUnlike(t *testing.T) {
	slice := any([]int{1})
	for i, k := range []any{slice, map[int]int{}, func() {}, [1]any{slice}, holder{1, slice}, math.NaN(), holder{1, math.NaN()}, &slice} {
		l := []any{1, slice, nil, holder{1, slice}, math.NaN(), 1}
		if got := Drop(l, k); len(got) != 6 || got[0] != 1 || got[2] != nil || got[5] != 1 {
			t.Errorf("case %d: dropped: %v", i, got)
		}
		if got := Touch(l, k); len(got) != 7 || got[0] != 1 || got[5] != 1 || fmt.Sprint(got[6]) != fmt.Sprint(k) {
			t.Errorf("case %d: touched: %v", i, got)
		}
		if got, is := Oldest([]any{k, 1}); !is || fmt.Sprint(got) != fmt.Sprint(k) {
			t.Errorf("case %d: the oldest: %v", i, got)
		}
		if last, ahead := Cut([]any{k, 1, k}, 1); len(last) != 1 || len(ahead) != 2 || ahead[1] != 1 {
			t.Errorf("case %d: cut: %v, %v", i, last, ahead)
		}
		if !Check([]any{k, 1, slice, slice, 2}) || Check([]any{k, 1, slice, 1}) {
			t.Errorf("case %d: Check", i)
		}
	}
	l := []any{1, slice, nil, holder{1, slice}, "a", math.NaN(), 1}
	if got := Drop(l, any(1)); len(got) != 5 || got[1] != nil || got[3] != "a" {
		t.Errorf("among them: %v", got)
	}
	if got := Touch(l, nil); len(got) != 7 || got[0] != 1 || got[3] != "a" || got[6] != nil {
		t.Errorf("among them: %v", got)
	}
	held := []holder{{1, slice}, {1, 2}, {1, slice}, {2, 2}}
	if got := Drop(held, holder{1, 2}); len(got) != 3 || got[2] != held[3] || !Check(held) || Check(append(held, holder{2, 2})) {
		t.Errorf("in structs: %v", got)
	}
	nans := []float64{math.NaN(), 1, math.NaN()}
	if len(Drop(nans, math.NaN())) != 3 || len(Touch(nans, math.NaN())) != 4 || !Check(nans) || Check(append(nans, 1)) {
		t.Error("numbers that are none")
	}
}

// slowDrop takes one out, again and again.
func slowDrop(l []int, k int) []int {
	l = slices.Clone(l)
	for {
		at := slices.Index(l, k)
		if at < 0 {
			return l
		}
		l = slices.Delete(l, at, at+1)
	}
}

func slowCheck(l []int) bool {
	for i, k := range l {
		if slices.Contains(l[:i], k) {
			return false
		}
	}
	return true
}

// P13.1 to P13.4: lists that are drawn.
func TestDrawn(t *testing.T) {
	draw := rand.New(rand.NewSource(13))
	for range 20000 {
		l := make([]int, draw.Intn(12))
		for i := range l {
			l[i] = draw.Intn(16)
		}
		before, k, most := slices.Clone(l), draw.Intn(16), draw.Intn(16)-2
		drop := slowDrop(l, k)
		same(t, "Drop", Drop(l, k), drop)
		same(t, "Touch", Touch(l, k), append(drop, k))
		last, ahead := Cut(l, most)
		same(t, "Cut", append(ahead, last...), l)
		if len(last) != min(max(most, 0), len(l)) {
			t.Errorf("Cut(%v, %d): the last: %v", l, most, last)
		}
		if got := Check(l); got != slowCheck(l) {
			t.Errorf("Check(%v) = %v", l, got)
		}
		same(t, "what was handed in", l, before)
	}
}

// P13.4: who was touched is not the oldest, unless it is alone; and nobody is there twice.
func TestTouched(t *testing.T) {
	draw := rand.New(rand.NewSource(134))
	var l []int
	for range 2000 {
		k := draw.Intn(9)
		l = Touch(l, k)
		oldest, is := Oldest(l)
		if !is || (oldest == k) != (len(l) == 1) {
			t.Fatalf("%d was touched: %v", k, l)
		}
		if !Check(l) || !slowCheck(l) {
			t.Fatalf("twice: %v", l)
		}
		if draw.Intn(4) == 0 {
			l = Drop(l, draw.Intn(9))
		}
	}
}

// R5: what is handed in is left as it is, beyond its end too, and is not shared; the lists of one answer are apart.
func TestIsNew(t *testing.T) {
	whole := []int{1, 2, 3, 4, 5, 6}
	l := whole[1:4]
	spoil := func(x []int) {
		x = x[:cap(x)]
		for i := range x {
			x[i] = 99
		}
	}
	for _, k := range []int{2, 3, 4, 9} {
		spoil(Touch(l, k))
		spoil(Drop(l, k))
		spoil(Touch(l[:0], k))
		spoil(Drop(l[:0], k))
	}
	for most := -1; most < 5; most++ {
		last, ahead := Cut(l, most)
		keptLast, keptAhead := slices.Clone(last), slices.Clone(ahead)
		_ = append(ahead, 98, 98, 98)
		same(t, "the last", last, keptLast)
		_ = append(last, 98, 98, 98)
		spoil(last)
		same(t, "ahead", ahead, keptAhead)
		spoil(ahead)
	}
	spoil(Touch(Touch(l, 2), 3))
	same(t, "what was handed in", whole, []int{1, 2, 3, 4, 5, 6})
	first := Touch(l, 2)
	a, b := append(first[:3:3], 7), Touch(first, 8)
	same(t, "one", a, []int{3, 4, 2, 7})
	same(t, "another", b, []int{3, 4, 2, 8})
	same(t, "the first", first, []int{3, 4, 2})
}

// Lists as long as nobody keeps them.
func TestMany(t *testing.T) {
	const count = 1000000
	l := make([]int, count)
	for i := range l {
		l[i] = i
	}
	if got := Touch(l, 0); len(got) != count || got[0] != 1 || got[count-1] != 0 {
		t.Error("Touch of many")
	}
	if last, ahead := Cut(l, count-1); len(last) != count-1 || last[0] != 1 || len(ahead) != 1 {
		t.Error("Cut of many")
	}
	if !Check(l) || Check(append(l, count/2)) {
		t.Error("Check of many")
	}
}

func ExampleTouch() {
	fmt.Println(Touch([]int{1, 2, 3}, 1))
	// Output: [2 3 1]
}
