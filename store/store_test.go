package store

import (
	"fmt"
	"math"
	"math/rand"
	"slices"
	"strconv"
	"strings"
	"testing"

	"wellspring/api"
)

const (
	week = 604800
	top  = 1099511627776
)

var noTimes = []int{math.MinInt, -top, -1, top + 1, 2 * top, math.MaxInt}

// key is that of addresses of a name of one label.
func key(label string) api.Question {
	return api.Question{Name: string(rune(len(label))) + label + "\x00", Type: api.A, Class: 1}
}

func set(label string, ttl int, datas ...string) api.Set {
	if datas == nil {
		datas = []string{"1111", "2222"}
	}
	return api.Set{Key: key(label), Datas: datas, TTL: ttl}
}

// bad are sets each of which is out of one bound alone.
func bad() []api.Set {
	all := []api.Set{{}}
	for _, change := range []func(s *api.Set){
		func(s *api.Set) { s.Key.Name = "" },
		func(s *api.Set) { s.Key.Name = "a" },
		func(s *api.Set) { s.Key.Name = "\x01A\x00" },
		func(s *api.Set) { s.Key.Name = "\x01a\x00\x00" },
		func(s *api.Set) { s.Key.Type = -1 },
		func(s *api.Set) { s.Key.Type = 65536 },
		func(s *api.Set) { s.Key.Class = -1 },
		func(s *api.Set) { s.Key.Class = 65536 },
		func(s *api.Set) { s.TTL = -1 },
		func(s *api.Set) { s.TTL = math.MinInt },
		func(s *api.Set) { s.TTL = 1 << 31 },
		func(s *api.Set) { s.TTL = math.MaxInt },
		func(s *api.Set) { s.Datas = nil },
		func(s *api.Set) { s.Datas = []string{"111"} },
		func(s *api.Set) { s.Datas = []string{"1111", "1111"} },
		func(s *api.Set) { s.Key.Type, s.Datas = api.NS, []string{"\x01A\x00"} },
	} {
		s := set("a", 10)
		change(&s)
		all = append(all, s)
	}
	return all
}

func text(i Item) string { return fmt.Sprintf("%q", fmt.Sprint(i)) }

func put(t *testing.T, s *Store, now int, x api.Set, believed int, want api.Errno) {
	t.Helper()
	if got := s.Put(now, x, believed); got != want {
		t.Errorf("Put(%d, %.100q, %d) = %d, want %d", now, fmt.Sprint(x), believed, got, want)
	}
}

// keeps checks which labels' keys are kept, in order, and how many changes there were.
func keeps(t *testing.T, s *Store, changes int, labels string) {
	t.Helper()
	var want []api.Question
	for _, l := range strings.Fields(labels) {
		want = append(want, key(l))
	}
	if got := s.Keys(); !slices.Equal(got, want) {
		t.Errorf("the keys are %v, want %s", got, labels)
	}
	if got := s.Changes(); got != changes {
		t.Errorf("%d changes, want %d", got, changes)
	}
}

// tells checks that Peek tells this item.
func tells(t *testing.T, s *Store, now int, want Item) {
	t.Helper()
	if got, is := s.Peek(now, want.Set.Key); !is || text(got) != text(want) {
		t.Errorf("at %d: %s, %v, want %s", now, text(got), is, text(want))
	}
}

// tellsNothing checks that neither Peek nor Get tells an item.
func tellsNothing(t *testing.T, s *Store, now int, k api.Question) {
	t.Helper()
	if got, is := s.Peek(now, k); is || text(got) != text(Item{}) {
		t.Errorf("at %d: Peek tells %s, %v", now, text(got), is)
	}
	if got, is := s.Get(now, k); is || text(got) != text(Item{}) {
		t.Errorf("at %d: Get tells %s, %v", now, text(got), is)
	}
}

// P14.1
func TestNew(t *testing.T) {
	for _, room := range []int{math.MinInt, -1000, -1, 0, 1001, 1 << 32, 1<<32 + 1, math.MaxInt} {
		if New(room) != nil {
			t.Errorf("New(%d) is a store", room)
		}
	}
	for _, room := range []int{1, 2, 3, 500, 999, 1000} {
		s := New(room)
		if s == nil {
			t.Fatalf("New(%d) is nil", room)
		}
		keeps(t, s, 0, "")
		tellsNothing(t, s, 0, key("a"))
		for i := range room + 5 {
			put(t, s, 7, set(strconv.Itoa(i), 10), 1, api.OK)
			if got := len(s.Keys()); got != min(i+1, room) {
				t.Fatalf("room for %d: %d keys", room, got)
			}
		}
		tellsNothing(t, s, 7, key("4"))
		tells(t, s, 7, Item{Set: set("5", 10), Until: 17, Rank: 1})
		if keys := s.Keys(); keys[0] != key("5") || keys[room-1] != key(strconv.Itoa(room+4)) || s.Changes() != room+5 {
			t.Errorf("room for %d: from %v on, %d changes", room, keys[0], s.Changes())
		}
	}
}

// P14.1 to P14.3: of nil; of a store that New did not make, too.
func TestNoStore(t *testing.T) {
	for i, s := range []*Store{nil, {}, new(Store)} {
		for _, now := range append([]int{0, 5}, noTimes...) {
			put(t, s, now, set("a", 10), 5, api.ErrArg)
			put(t, s, now, set("a", 0), 5, api.ErrArg)
			tellsNothing(t, s, now, key("a"))
		}
		if s.Drop(key("a")) || s.Keys() != nil || s.Changes() != 0 {
			t.Errorf("case %d: it tells something", i)
		}
	}
}

// P14.2: wrong inputs; nothing changes by them.
func TestPutErrArg(t *testing.T) {
	s := New(2)
	put(t, s, 0, set("a", 10), 1, api.OK)
	put(t, s, 0, set("b", 10), 1, api.OK)
	for _, x := range bad() {
		put(t, s, 5, x, 5, api.ErrArg)
	}
	for _, now := range noTimes {
		put(t, s, now, set("a", 10), 5, api.ErrArg)
		put(t, s, now, set("c", 10), 5, api.ErrArg)
		put(t, s, now, set("c", 0), 5, api.ErrArg)
	}
	for _, r := range []int{math.MinInt, -5, -1, 0, 6, 7, 1<<32 + 5, math.MaxInt} {
		put(t, s, 5, set("a", 10), r, api.ErrArg)
		put(t, s, 50, set("a", 10), r, api.ErrArg)
		put(t, s, 5, set("c", 10), r, api.ErrArg)
		put(t, s, 5, set("c", 0), r, api.ErrArg)
	}
	keeps(t, s, 2, "a b")
	tells(t, s, 5, Item{Set: set("a", 10), Until: 10, Rank: 1})
	tells(t, s, 5, Item{Set: set("b", 10), Until: 10, Rank: 1})
}

// P14.2: a time of 0, be anything kept of the key or not; ahead of the rank.
func TestPutErrTime(t *testing.T) {
	s := New(2)
	put(t, s, 5, set("a", 0), 5, api.ErrTime)
	keeps(t, s, 0, "")
	put(t, s, 5, set("a", 10), 3, api.OK)
	put(t, s, 5, set("b", 10), 3, api.OK)
	for _, now := range []int{0, 5, 14, 15, 50, top} {
		for r := 1; r <= 5; r++ {
			put(t, s, now, set("a", 0), r, api.ErrTime)
			put(t, s, now, set("c", 0), r, api.ErrTime)
		}
	}
	keeps(t, s, 2, "a b")
	tells(t, s, 14, Item{Set: set("a", 10), Until: 15, Rank: 3})
	tellsNothing(t, s, 15, key("a"))
}

// P14.2: until when it lives.
func TestPutUntil(t *testing.T) {
	for _, c := range []struct{ now, ttl, until int }{
		{0, 1, 1},
		{10, 5, 15},
		{10, week - 1, 10 + week - 1},
		{10, week, 10 + week},
		{10, week + 1, 10 + week},
		{10, 1<<31 - 1, 10 + week},
		{top, 1, top + 1},
		{top, 1<<31 - 1, top + week},
		{top - 1, 1, top},
	} {
		s := New(1)
		put(t, s, c.now, set("a", c.ttl), 3, api.OK)
		want := Item{Set: set("a", c.ttl), Until: c.until, Rank: 3}
		tells(t, s, c.now, want)
		tells(t, s, min(c.until-1, top), want)
		tellsNothing(t, s, c.until, key("a"))
		keeps(t, s, 1, "a")
	}
}

// P14.2: each rank over each, while the old one lives and when it does not any more; what is told then is the last that was put.
func TestPutErrRank(t *testing.T) {
	for old := 1; old <= 5; old++ {
		for r := 1; r <= 5; r++ {
			for _, now := range []int{100, 109, 110, 1000} {
				s := New(2)
				put(t, s, 100, set("a", 10), old, api.OK)
				put(t, s, 100, set("b", 10), old, api.OK)
				x := set("a", 20, "3333")
				if now < 110 && r < old {
					put(t, s, now, x, r, api.ErrRank)
					keeps(t, s, 2, "a b")
					tells(t, s, now, Item{Set: set("a", 10), Until: 110, Rank: old})
					continue
				}
				put(t, s, now, x, r, api.OK)
				keeps(t, s, 3, "b a")
				tells(t, s, now, Item{Set: x, Until: now + 20, Rank: r})
			}
		}
	}
}

// P14.2: with a clock that goes back, what has died lives again.
func TestPutBefore(t *testing.T) {
	s := New(1)
	put(t, s, 100, set("a", 10), 5, api.OK)
	tellsNothing(t, s, 110, key("a"))
	put(t, s, 0, set("a", 20), 4, api.ErrRank)
	tells(t, s, 0, Item{Set: set("a", 10), Until: 110, Rank: 5})
	put(t, s, 0, set("a", 5), 5, api.OK)
	tellsNothing(t, s, 5, key("a"))
}

// P14.2: who was put or got last stays, live or not; one that takes the place of another needs no room.
func TestRoom(t *testing.T) {
	s := New(3)
	for _, l := range []string{"a", "b", "c"} {
		put(t, s, 0, set(l, 10), 1, api.OK)
	}
	keeps(t, s, 3, "a b c")
	put(t, s, 1, set("a", 10), 1, api.OK)
	keeps(t, s, 4, "b c a")
	s.Get(1, key("b"))
	s.Peek(1, key("c"))
	keeps(t, s, 4, "c a b")
	put(t, s, 1, set("d", 10), 1, api.OK)
	keeps(t, s, 5, "a b d")
	tellsNothing(t, s, 1, key("c"))
	put(t, s, 10, set("e", 10), 1, api.OK) // a lives, b does not
	keeps(t, s, 6, "b d e")
	tellsNothing(t, s, 10, key("a"))
	put(t, s, 10, set("c", 10), 1, api.OK)
	keeps(t, s, 7, "d e c")
	tells(t, s, 9, Item{Set: set("d", 10), Until: 11, Rank: 1})
	// What was dropped for want of room has no rank any more.
	put(t, s, 10, set("d", 90), 5, api.OK)
	put(t, s, 10, set("x", 90), 5, api.OK)
	put(t, s, 10, set("y", 90), 5, api.OK)
	keeps(t, s, 10, "d x y")
	put(t, s, 10, set("z", 90), 5, api.OK)
	put(t, s, 10, set("d", 90), 1, api.OK)
	keeps(t, s, 12, "y z d")
}

// P14.3: Peek uses nothing; Get uses what it tells, and what is dead is left where it is.
func TestPeekAndGet(t *testing.T) {
	s := New(5)
	put(t, s, 5, set("a", 10), 2, api.OK)
	put(t, s, 5, set("b", 20), 5, api.OK)
	put(t, s, 5, set("c", 30), 1, api.OK)
	a := Item{Set: set("a", 10), Until: 15, Rank: 2}
	for _, now := range []int{0, 5, 14} {
		tells(t, s, now, a)
	}
	keeps(t, s, 3, "a b c")
	if got, is := s.Get(14, key("a")); !is || text(got) != text(a) {
		t.Errorf("Get tells %s, %v", text(got), is)
	}
	keeps(t, s, 3, "b c a")
	for _, now := range append([]int{15, 16, top}, noTimes...) {
		tellsNothing(t, s, now, key("a"))
		tellsNothing(t, s, now, api.Question{})
	}
	tellsNothing(t, s, 25, key("b"))
	keeps(t, s, 3, "b c a")
	s.Get(34, key("c"))
	keeps(t, s, 3, "b a c")
}

// P14.2, P14.3: each part of a key counts.
func TestKeysAreExact(t *testing.T) {
	s := New(10)
	k := key("a")
	keys := []api.Question{k, {Name: k.Name, Type: 99, Class: 1}, {Name: k.Name, Type: api.A, Class: 2}, {Name: "\x00", Type: api.A, Class: 1}, {Name: "\x00"}}
	for i, k := range keys {
		put(t, s, 0, api.Set{Key: k, Datas: []string{"111" + strconv.Itoa(i)}, TTL: 10}, 5-i, api.OK)
	}
	if got := s.Keys(); !slices.Equal(got, keys) {
		t.Errorf("the keys are %v", got)
	}
	for i, k := range keys {
		tells(t, s, 0, Item{Set: api.Set{Key: k, Datas: []string{"111" + strconv.Itoa(i)}, TTL: 10}, Until: 10, Rank: 5 - i})
	}
	for _, other := range []api.Question{{}, {Name: "\x01A\x00", Type: api.A, Class: 1}, {Name: "a", Type: api.A, Class: 1}, {Name: k.Name, Type: api.NS, Class: 1}, {Name: k.Name, Type: api.A}, {Name: k.Name, Type: -1, Class: math.MaxInt}} {
		tellsNothing(t, s, 0, other)
		if s.Drop(other) {
			t.Errorf("Drop(%v)", other)
		}
	}
	if s.Changes() != 5 {
		t.Errorf("%d changes", s.Changes())
	}
}

// P14.3: live or not, at any place; twice; and it may come again, with any rank.
func TestDrop(t *testing.T) {
	s := New(4)
	drop := func(label string, want bool) {
		t.Helper()
		if got := s.Drop(key(label)); got != want {
			t.Errorf("Drop(%s) = %v", label, got)
		}
	}
	drop("a", false)
	for _, l := range []string{"a", "b", "c", "d"} {
		put(t, s, 0, set(l, 10), 5, api.OK)
	}
	drop("b", true)
	keeps(t, s, 5, "a c d")
	drop("b", false)
	drop("e", false)
	keeps(t, s, 5, "a c d")
	tellsNothing(t, s, 0, key("b"))
	tellsNothing(t, s, 10, key("a"))
	drop("a", true)
	drop("d", true)
	keeps(t, s, 7, "c")
	tells(t, s, 9, Item{Set: set("c", 10), Until: 10, Rank: 5})
	put(t, s, 0, set("a", 10), 1, api.OK)
	drop("c", true)
	keeps(t, s, 9, "a")
	drop("a", true)
	keeps(t, s, 10, "")
	put(t, s, 0, set("a", 10), 1, api.OK)
	keeps(t, s, 11, "a")
}

// R5: what was put, and what was told, is the caller's own.
func TestIsNew(t *testing.T) {
	s := New(3)
	x := set("a", 10, "1111", "2222", "3333")
	want := Item{Set: set("a", 10, "1111", "2222", "3333"), Until: 10, Rank: 3}
	put(t, s, 0, x, 3, api.OK)
	put(t, s, 0, set("b", 10), 3, api.OK)
	x.Datas[0] = "9999"
	_ = append(x.Datas[:1], "9999", "9999")
	tells(t, s, 0, want)
	for _, ask := range []func(int, api.Question) (Item, bool){s.Peek, s.Get} {
		got, _ := ask(0, key("a"))
		before, _ := ask(0, key("a"))
		got.Set.Datas[1] = "9999"
		_ = append(got.Set.Datas[:1], "9999", "9999")
		tells(t, s, 0, want)
		if text(before) != text(want) {
			t.Errorf("changed, too: %s", text(before))
		}
	}
	keeps(t, s, 2, "b a")
	keys := s.Keys()
	keys[0] = key("z")
	_ = append(keys, key("z"))
	keeps(t, s, 2, "b a")
	keys = s.Keys()
	put(t, s, 0, set("c", 10), 3, api.OK)
	s.Get(0, key("b"))
	s.Drop(key("a"))
	if !slices.Equal(keys, []api.Question{key("b"), key("a")}) {
		t.Errorf("what was told is %v now", keys)
	}
	keeps(t, s, 4, "c b")
	other := New(3)
	put(t, other, 0, set("c", 10), 1, api.OK)
	keeps(t, other, 1, "c")
	keeps(t, s, 4, "c b")
}

// slow is a store that goes through a list, from the least lately used one on.
type slow struct {
	room    int
	items   []Item
	changes int
}

func (s *slow) place(label string) int {
	return slices.IndexFunc(s.items, func(i Item) bool { return i.Set.Key == key(label) })
}

func (s *slow) put(now int, x api.Set, r int) api.Errno {
	if r < 1 || r > 5 || now < 0 {
		return api.ErrArg
	}
	if x.TTL == 0 {
		return api.ErrTime
	}
	at := slices.IndexFunc(s.items, func(i Item) bool { return i.Set.Key == x.Key })
	if at >= 0 {
		if s.items[at].Until > now && s.items[at].Rank > r {
			return api.ErrRank
		}
		s.items = slices.Delete(s.items, at, at+1)
	}
	s.items = append(s.items, Item{Set: x, Until: now + min(x.TTL, week), Rank: r})
	if len(s.items) > s.room {
		s.items = s.items[1:]
	}
	s.changes++
	return api.OK
}

func (s *slow) find(now int, label string, use bool) (Item, bool) {
	at := s.place(label)
	if at < 0 || now < 0 || s.items[at].Until <= now {
		return Item{}, false
	}
	found := s.items[at]
	if use {
		s.items = append(slices.Delete(s.items, at, at+1), found)
	}
	return found, true
}

func (s *slow) drop(label string) bool {
	at := s.place(label)
	if at >= 0 {
		s.items = slices.Delete(s.items, at, at+1)
		s.changes++
	}
	return at >= 0
}

// step does one thing that is drawn to both, and tells what each answers.
func step(draw *rand.Rand, s *Store, m *slow, now int) (string, string, string) {
	label := strconv.Itoa(draw.Intn(m.room + 3))
	switch draw.Intn(8) {
	case 0, 1, 2, 3:
		x, r := set(label, draw.Intn(12), []string{"1111", "2222", "3333", "4444"}[:1+draw.Intn(4)]...), draw.Intn(7)
		return "Put", fmt.Sprint(s.Put(now, x, r)), fmt.Sprint(m.put(now, x, r))
	case 4:
		a, isA := s.Peek(now, key(label))
		b, isB := m.find(now, label, false)
		return "Peek", fmt.Sprint(text(a), isA), fmt.Sprint(text(b), isB)
	case 5, 6:
		a, isA := s.Get(now, key(label))
		b, isB := m.find(now, label, true)
		return "Get", fmt.Sprint(text(a), isA), fmt.Sprint(text(b), isB)
	}
	return "Drop", fmt.Sprint(s.Drop(key(label))), fmt.Sprint(m.drop(label))
}

// P14.1 to P14.4: many things one behind the other, that are drawn, while time goes by; there are never more than room.
func TestDrawn(t *testing.T) {
	for room := 1; room <= 8; room++ {
		draw := rand.New(rand.NewSource(int64(room)))
		s, m, now := New(room), &slow{room: room}, -3
		for range 5000 {
			what, got, want := step(draw, s, m, now)
			if got != want {
				t.Fatalf("room for %d, at %d: %s tells %s, want %s", room, now, what, got, want)
			}
			var keys []api.Question
			for _, i := range m.items {
				keys = append(keys, i.Set.Key)
			}
			if !slices.Equal(s.Keys(), keys) || len(keys) > room || s.Changes() != m.changes {
				t.Fatalf("room for %d, at %d, behind %s: %v, want %v; %d changes, want %d", room, now, what, s.Keys(), keys, s.Changes(), m.changes)
			}
			now += draw.Intn(3)
		}
	}
}

// P14.4: a live item is never replaced by one of a lower rank, and what is kept is the last that was put.
func TestNeverLower(t *testing.T) {
	draw := rand.New(rand.NewSource(144))
	s, last := New(1), Item{}
	for now := range 5000 {
		r, x := 1+draw.Intn(5), set("a", 1+draw.Intn(9), strconv.Itoa(1000+now%9000))
		old, live := s.Peek(now, key("a"))
		if e := s.Put(now, x, r); e == api.OK {
			if live && r < old.Rank {
				t.Fatalf("at %d the rank %d took the place of %d", now, r, old.Rank)
			}
			last = Item{Set: x, Until: now + x.TTL, Rank: r}
		} else if e != api.ErrRank || !live || r >= old.Rank {
			t.Fatalf("at %d the rank %d: %d", now, r, e)
		}
		tells(t, s, now, last)
	}
}

// The chapter's example.
func ExampleStore() {
	a, b, c := set("a", 10), set("b", 10), set("c", 10)
	s := New(2)
	s.Put(0, a, 5)
	s.Put(0, b, 5)
	s.Get(0, a.Key)
	s.Put(0, c, 5)
	for _, k := range s.Keys() {
		fmt.Printf("%q\n", k.Name)
	}
	// Output:
	// "\x01a\x00"
	// "\x01c\x00"
}
