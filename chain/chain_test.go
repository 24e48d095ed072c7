package chain

import (
	"fmt"
	"math"
	"math/rand"
	"slices"
	"strconv"
	"strings"
	"testing"

	"wellspring/api"
	"wellspring/neg"
	"wellspring/store"
)

const (
	week = 604800
	top  = 1099511627776
)

const root = "\x00"

// n is a name of one label.
func n(label string) string { return string(rune(len(label))) + label + root }

func key(label string, kind int) api.Question {
	return api.Question{Name: n(label), Type: kind, Class: 1}
}

func set(label string, kind int, ttl int, datas ...string) api.Set {
	return api.Set{Key: key(label, kind), Datas: datas, TTL: ttl}
}

// soa is one of the root, that lives as long as both numbers say.
func soa(ttl int, minimum byte) api.Set {
	datas := []string{"\x01m\x00\x01r\x000123456789abcdef\x00\x00\x00" + string([]byte{minimum})}
	return api.Set{Key: api.Question{Name: root, Type: api.SOA, Class: 1}, Datas: datas, TTL: ttl}
}

// world is all that is looked into.
type world struct {
	t    *testing.T
	sets *store.Store
	none *neg.Neg
}

func newWorld(t *testing.T) world { return world{t, store.New(50), neg.New(50)} }

// put puts a set at the time 0.
func (w world) put(rank int, s api.Set) {
	w.t.Helper()
	if e := w.sets.Put(0, s, rank); e != api.OK {
		w.t.Fatalf("Put of %q: %d", fmt.Sprint(s), e)
	}
}

// link puts an alias, that is believed as much as may be.
func (w world) link(label string, ttl int, target string) {
	w.t.Helper()
	w.put(5, set(label, api.CNAME, ttl, n(target)))
}

// lacks puts at the time 0 what is not there.
func (w world) lacks(k api.Question, nx bool, x api.Set) {
	w.t.Helper()
	if e := w.none.Put(0, k, nx, x); e != api.OK {
		w.t.Fatalf("Put of %v: %d", k, e)
	}
}

func text(c Chain) string { return fmt.Sprintf("%q", fmt.Sprint(c)) }

// follows checks the whole of a chain.
func (w world) follows(now int, q api.Question, want Chain) {
	w.t.Helper()
	if got := Follow(w.sets, w.none, now, q); text(got) != text(want) {
		w.t.Errorf("at %d, of %v:\n%s, want\n%s", now, q, text(got), text(want))
	}
}

// P16.1
func TestTarget(t *testing.T) {
	most := strings.Repeat("\x3f"+strings.Repeat("X", 63), 3) + "\x3d" + strings.Repeat("y", 61) + "\x00"
	for _, name := range []string{"\x00", "\x01b\x00", "\x01B\x02\x00\xc0\x00", most} {
		for _, s := range []api.Set{
			set("a", api.CNAME, 9, name),
			set("a", api.CNAME, 9, name, "\x01c\x00", "no name"),
			{Key: api.Question{Type: api.CNAME}, Datas: []string{name}},
			{Key: api.Question{Name: "no name", Type: api.CNAME, Class: -1}, Datas: []string{name}, TTL: -1},
		} {
			if got, is := Target(s); got != name || !is {
				t.Errorf("Target(%.100q) = %.100q, %v", fmt.Sprint(s), got, is)
			}
		}
	}
	for _, s := range []api.Set{
		{},
		set("a", api.CNAME, 9),
		{Key: key("a", api.CNAME), Datas: []string{}},
		set("a", api.CNAME, 9, ""),
		set("a", api.CNAME, 9, "b"),
		set("a", api.CNAME, 9, "\x01b"),
		set("a", api.CNAME, 9, "\x01b\x00\x00"),
		set("a", api.CNAME, 9, "\x00\x00"),
		set("a", api.CNAME, 9, "\xc0\x00"),
		set("a", api.CNAME, 9, "\x40"+strings.Repeat("b", 64)+"\x00"),
		set("a", api.CNAME, 9, "\x01a"+most),
		set("a", api.CNAME, 9, "", "\x01b\x00"),
		set("a", api.NS, 9, "\x01b\x00"),
		set("a", api.PTR, 9, "\x01b\x00"),
		set("a", api.A, 9, "1111"),
		set("a", 0, 9, "\x01b\x00"),
		set("a", -api.CNAME, 9, "\x01b\x00"),
		set("a", 99, 9, "\x01b\x00"),
		set("a", 65536+api.CNAME, 9, "\x01b\x00"),
	} {
		if got, is := Target(s); got != "" || is {
			t.Errorf("Target(%.100q) = %q, %v", fmt.Sprint(s), got, is)
		}
	}
}

// P16.2: what is found, of any type, class and name; and what was not kept.
func TestFound(t *testing.T) {
	w := newWorld(t)
	a := set("a", api.A, 30, "2222", "1111")
	other := api.Set{Key: api.Question{Name: n("a"), Type: api.A, Class: 3}, Datas: []string{"3333"}, TTL: 20}
	odd := api.Set{Key: api.Question{Name: "\x00", Type: 0, Class: 0}, Datas: []string{""}, TTL: 1<<31 - 1}
	for _, s := range []api.Set{a, other, odd} {
		w.put(5, s)
	}
	w.follows(0, a.Key, Chain{Hits: []Hit{{a, 30}}, End: Found, Name: n("a")})
	w.follows(29, a.Key, Chain{Hits: []Hit{{a, 1}}, End: Found, Name: n("a")})
	w.follows(19, other.Key, Chain{Hits: []Hit{{other, 1}}, End: Found, Name: n("a")})
	w.follows(0, odd.Key, Chain{Hits: []Hit{{odd, week}}, End: Found, Name: "\x00"})
	w.follows(5, odd.Key, Chain{Hits: []Hit{{odd, week - 5}}, End: Found, Name: "\x00"})
	for _, now := range []int{30, 31, top, -1, math.MinInt, top + 1, math.MaxInt} {
		w.follows(now, a.Key, Chain{End: Missing, Name: n("a")})
	}
	for _, q := range []api.Question{
		{},
		{Name: "no name", Type: api.A, Class: 1},
		{Name: "\x01A\x00", Type: api.A, Class: 1},
		{Name: n("a"), Type: api.A},
		{Name: n("a"), Type: api.A, Class: 2},
		{Name: n("a"), Type: api.NS, Class: 1},
		{Name: n("a"), Type: -1, Class: math.MaxInt},
		{Name: "\x00", Type: api.A, Class: 1},
		{Name: "\x01x\x01a\x00", Type: api.A, Class: 1},
	} {
		w.follows(0, q, Chain{End: Missing, Name: q.Name})
	}
}

// P16.2: clients are told what has a rank of 3 at least; so it is with what they are led by.
func TestRanks(t *testing.T) {
	for rank := 1; rank <= 5; rank++ {
		w := newWorld(t)
		a, link := set("a", api.A, 30, "1111"), set("b", api.CNAME, 20, n("a"))
		w.put(rank, a)
		w.put(rank, link)
		if rank < 3 {
			w.follows(0, a.Key, Chain{End: Missing, Name: n("a")})
			w.follows(0, key("b", api.A), Chain{End: Missing, Name: n("b")})
			w.follows(0, link.Key, Chain{End: Missing, Name: n("b")})
			// What is not there is told ahead of what is believed too little.
			w.lacks(a.Key, false, soa(9, 99))
			w.lacks(key("b", api.A), true, soa(9, 99))
			w.follows(0, a.Key, Chain{End: NoData, Name: n("a"), Soa: Hit{soa(9, 99), 9}})
			w.follows(0, key("b", api.A), Chain{End: Nothing, Name: n("b"), Soa: Hit{soa(9, 99), 9}})
			continue
		}
		w.follows(0, a.Key, Chain{Hits: []Hit{{a, 30}}, End: Found, Name: n("a")})
		w.follows(1, key("b", api.A), Chain{Hits: []Hit{{link, 19}, {a, 29}}, End: Found, Name: n("a")})
		w.follows(1, link.Key, Chain{Hits: []Hit{{link, 19}}, End: Found, Name: n("b")})
	}
}

// P16.2: what is there, an alias, and what is not there, all of one name: each goes ahead of the next, as long as it lives.
func TestWhatHoldsFirst(t *testing.T) {
	w := newWorld(t)
	a, link, b := set("a", api.A, 10, "1111"), set("a", api.CNAME, 20, n("b")), set("b", api.A, 40, "2222")
	w.put(3, a)
	w.put(5, link)
	w.put(4, b)
	w.lacks(a.Key, false, soa(30, 99))
	w.lacks(key("b", api.NS), true, soa(40, 99))
	w.follows(9, a.Key, Chain{Hits: []Hit{{a, 1}}, End: Found, Name: n("a")})
	w.follows(10, a.Key, Chain{Hits: []Hit{{link, 10}, {b, 30}}, End: Found, Name: n("b")})
	w.follows(19, a.Key, Chain{Hits: []Hit{{link, 1}, {b, 21}}, End: Found, Name: n("b")})
	w.follows(20, a.Key, Chain{End: NoData, Name: n("a"), Soa: Hit{soa(30, 99), 10}})
	w.follows(30, a.Key, Chain{End: Missing, Name: n("a")})
	// An alias that is asked for itself leads nowhere.
	w.follows(9, link.Key, Chain{Hits: []Hit{{link, 11}}, End: Found, Name: n("a")})
	w.follows(20, link.Key, Chain{End: Missing, Name: n("a")})
	// Of another type there is an alias, and nothing where it leads.
	w.follows(9, key("a", api.MX), Chain{Hits: []Hit{{link, 11}}, End: Nothing, Name: n("b"), Soa: Hit{soa(40, 99), 31}})
	w.follows(9, b.Key, Chain{Hits: []Hit{{b, 31}}, End: Found, Name: n("b")})
	w.follows(9, key("b", api.CNAME), Chain{End: Nothing, Name: n("b"), Soa: Hit{soa(40, 99), 31}})
}

// P16.2: what is not there, of a name or of its type, until its time ends; of its class alone.
func TestNotThere(t *testing.T) {
	w := newWorld(t)
	w.lacks(key("a", api.A), false, soa(20, 99))
	w.lacks(key("a", api.A), true, soa(10, 99))
	w.lacks(key("b", api.A), false, soa(99, 20))
	w.lacks(key("c", api.CNAME), false, soa(5, 99))
	w.link("d", 30, "b")
	d := set("d", api.CNAME, 30, n("b"))
	w.follows(9, key("a", api.A), Chain{End: Nothing, Name: n("a"), Soa: Hit{soa(10, 99), 1}})
	w.follows(9, key("a", api.TXT), Chain{End: Nothing, Name: n("a"), Soa: Hit{soa(10, 99), 1}})
	w.follows(10, key("a", api.A), Chain{End: NoData, Name: n("a"), Soa: Hit{soa(20, 99), 10}})
	w.follows(10, key("a", api.TXT), Chain{End: Missing, Name: n("a")})
	w.follows(20, key("a", api.A), Chain{End: Missing, Name: n("a")})
	w.follows(0, api.Question{Name: n("a"), Type: api.A, Class: 3}, Chain{End: Missing, Name: n("a")})
	w.follows(4, key("c", api.CNAME), Chain{End: NoData, Name: n("c"), Soa: Hit{soa(5, 99), 1}})
	w.follows(4, key("c", api.A), Chain{End: Missing, Name: n("c")})
	w.follows(19, key("d", api.A), Chain{Hits: []Hit{{d, 11}}, End: NoData, Name: n("b"), Soa: Hit{soa(99, 20), 1}})
	w.follows(19, key("d", api.MX), Chain{Hits: []Hit{{d, 11}}, End: Missing, Name: n("b")})
	w.follows(20, key("d", api.A), Chain{Hits: []Hit{{d, 10}}, End: Missing, Name: n("b")})
	w.follows(-1, key("a", api.A), Chain{End: Missing, Name: n("a")})
}

// row links x0 to x1, x1 to x2, and so on, as many as count.
func (w world) row(count int) []Hit {
	w.t.Helper()
	var hits []Hit
	for i := range count {
		w.link("x"+strconv.Itoa(i), 100+i, "x"+strconv.Itoa(i+1))
		hits = append(hits, Hit{set("x"+strconv.Itoa(i), api.CNAME, 100+i, n("x"+strconv.Itoa(i+1))), 100 + i})
	}
	return hits
}

// P16.2: eight links may lead to what is asked, or to what is not there; a ninth one is too many.
func TestHops(t *testing.T) {
	for count := range 12 {
		w := newWorld(t)
		hits := w.row(count)
		last := "x" + strconv.Itoa(count)
		a := set(last, api.A, 9, "1111")
		if count > 8 {
			w.put(5, a)
			w.follows(0, key("x0", api.A), Chain{Hits: hits[:9], End: Long, Name: n("x8")})
			nine, eight := count-9, count-8
			w.follows(0, key("x"+strconv.Itoa(nine), api.A), Chain{Hits: hits[nine:], End: Long, Name: n("x" + strconv.Itoa(count-1))})
			w.follows(0, key("x"+strconv.Itoa(eight), api.A), Chain{Hits: append(slices.Clone(hits[eight:]), Hit{a, 9}), End: Found, Name: n(last)})
			continue
		}
		w.follows(0, key("x0", api.A), Chain{Hits: hits, End: Missing, Name: n(last)})
		w.lacks(key(last, api.A), false, soa(7, 99))
		w.follows(0, key("x0", api.A), Chain{Hits: hits, End: NoData, Name: n(last), Soa: Hit{soa(7, 99), 7}})
		w.lacks(key(last, api.A), true, soa(6, 99))
		w.follows(0, key("x0", api.A), Chain{Hits: hits, End: Nothing, Name: n(last), Soa: Hit{soa(6, 99), 6}})
		w.put(5, a)
		w.follows(0, key("x0", api.A), Chain{Hits: append(hits, Hit{a, 9}), End: Found, Name: n(last)})
	}
}

// P16.2: an alias that leads to itself, to where it began, or to anything ahead of it.
func TestRounds(t *testing.T) {
	for count := 1; count <= 9; count++ {
		for back := range count {
			w := newWorld(t)
			hits := w.row(count - 1)
			last := "x" + strconv.Itoa(count-1)
			w.link(last, 50, "x"+strconv.Itoa(back))
			hits = append(hits, Hit{set(last, api.CNAME, 50, n("x"+strconv.Itoa(back))), 50})
			// What is not there does not count where there is an alias.
			w.lacks(key(last, api.A), true, soa(9, 99))
			w.follows(0, key("x0", api.A), Chain{Hits: hits, End: Long, Name: n(last)})
			w.follows(0, key(last, api.CNAME), Chain{Hits: hits[count-1:], End: Found, Name: n(last)})
		}
	}
}

// P16.2: of an alias of two names the first one leads on; the root is a name, too.
func TestFirstTarget(t *testing.T) {
	w := newWorld(t)
	two := set("a", api.CNAME, 9, n("c"), n("b"))
	up := set("c", api.CNAME, 8, root)
	x := api.Set{Key: api.Question{Name: root, Type: api.TXT, Class: 1}, Datas: []string{"\x01x"}, TTL: 7}
	w.put(5, two)
	w.put(5, up)
	w.put(5, x)
	w.put(5, set("b", api.TXT, 9, "\x01b"))
	w.follows(0, key("a", api.TXT), Chain{Hits: []Hit{{two, 9}, {up, 8}, {x, 7}}, End: Found, Name: root})
}

// P16.2: with a clock that goes back no more than a week is left of what was put.
func TestLeftIsAWeekAtMost(t *testing.T) {
	w := newWorld(t)
	link, b := set("a", api.CNAME, week, n("b")), set("b", api.A, 1<<31-1, "1111")
	w.sets.Put(1000, link, 5)
	w.sets.Put(2000, b, 5)
	w.follows(500, key("a", api.A), Chain{Hits: []Hit{{link, week}, {b, week}}, End: Found, Name: n("b")})
	w.follows(1001, key("a", api.A), Chain{Hits: []Hit{{link, week - 1}, {b, week}}, End: Found, Name: n("b")})
	long := soa(1<<31-1, 99)
	long.Datas[0] = long.Datas[0][:len(long.Datas[0])-4] + "\xff\xff\xff\xff"
	w.none.Put(1000, key("c", api.A), true, long)
	w.follows(500, key("c", api.A), Chain{End: Nothing, Name: n("c"), Soa: Hit{long, week}})
	w.follows(1001, key("c", api.A), Chain{End: Nothing, Name: n("c"), Soa: Hit{long, week - 1}})
}

// P16.2: with no store, and nothing that is not there.
func TestFollowOfNil(t *testing.T) {
	w := newWorld(t)
	w.link("a", 9, "b")
	w.lacks(key("b", api.A), true, soa(8, 99))
	a, b := set("a", api.CNAME, 9, n("b")), Hit{soa(8, 99), 8}
	world{t, nil, nil}.follows(0, key("a", api.A), Chain{End: Missing, Name: n("a")})
	world{t, nil, nil}.follows(0, api.Question{}, Chain{End: Missing})
	world{t, w.sets, nil}.follows(0, key("a", api.A), Chain{Hits: []Hit{{a, 9}}, End: Missing, Name: n("b")})
	world{t, nil, w.none}.follows(0, key("a", api.A), Chain{End: Missing, Name: n("a")})
	world{t, nil, w.none}.follows(0, key("b", api.A), Chain{End: Nothing, Name: n("b"), Soa: b})
	w.follows(0, key("a", api.A), Chain{Hits: []Hit{{a, 9}}, End: Nothing, Name: n("b"), Soa: b})
}

// P16.2: nothing is used, or changed, by being followed; the same again tells the same.
func TestFollowUsesNothing(t *testing.T) {
	w := newWorld(t)
	w.link("a", 9, "b")
	w.put(5, set("b", api.A, 9, "1111"))
	w.link("c", 9, "d")
	w.lacks(key("d", api.A), true, soa(9, 99))
	w.lacks(key("e", api.A), true, soa(9, 99))
	keys, none := w.sets.Keys(), w.none.Keys()
	for _, label := range []string{"e", "d", "c", "b", "a", "f", "b", "c"} {
		q := key(label, api.A)
		w.follows(3, q, Follow(w.sets, w.none, 3, q))
		if !slices.Equal(w.sets.Keys(), keys) || !slices.Equal(w.none.Keys(), none) || w.sets.Changes() != 3 || w.none.Changes() != 2 {
			t.Fatalf("used by %s: %v, %v, %d, %d", label, w.sets.Keys(), w.none.Keys(), w.sets.Changes(), w.none.Changes())
		}
	}
}

// R5: what was told is the caller's own.
func TestFollowIsNew(t *testing.T) {
	w := newWorld(t)
	w.link("a", 9, "b")
	w.lacks(key("b", api.A), true, soa(8, 99))
	got, again := Follow(w.sets, w.none, 0, key("a", api.A)), Follow(w.sets, w.none, 0, key("a", api.A))
	want := text(got)
	keys := got.Keys()
	got.Hits[0].Set.Datas[0] = "changed"
	got.Soa.Set.Datas[0] = "changed"
	keys[0] = api.Question{}
	got.Hits[0].Left = 99
	if text(again) != want || text(Follow(w.sets, w.none, 0, key("a", api.A))) != want {
		t.Errorf("changed, too: %s", text(again))
	}
	if !slices.Equal(got.Keys(), []api.Question{key("a", api.CNAME)}) {
		t.Errorf("the keys are %v", got.Keys())
	}
}

// P16.3
func TestKeys(t *testing.T) {
	for _, c := range []Chain{{}, {Hits: []Hit{}}, {End: Nothing, Name: n("a"), Soa: Hit{soa(9, 9), 9}}} {
		if got := c.Keys(); got != nil {
			t.Errorf("Keys of %s: %v", text(c), got)
		}
	}
	want := []api.Question{key("b", api.CNAME), key("a", api.A), key("b", api.CNAME), {}, {Name: "no name", Type: -1, Class: -1}}
	c := Chain{End: NoData, Soa: Hit{soa(9, 9), 9}}
	for i, k := range want {
		c.Hits = append(c.Hits, Hit{Set: api.Set{Key: k}})
		if got := c.Keys(); !slices.Equal(got, want[:i+1]) {
			t.Errorf("Keys of %s: %v", text(c), got)
		}
	}
}

// lasting is a chain of hits that live so long.
func lasting(end int, soaLeft int, lefts ...int) Chain {
	c := Chain{End: end, Soa: Hit{Left: soaLeft}}
	for _, l := range lefts {
		c.Hits = append(c.Hits, Hit{Left: l})
	}
	return c
}

// P16.3
func TestLeast(t *testing.T) {
	for _, c := range []struct {
		soaLeft int
		lefts   []int
		without int
		with    int
	}{
		{0, nil, 0, 0},
		{9, nil, 0, 9},
		{9, []int{}, 0, 9},
		{9, []int{5}, 5, 5},
		{5, []int{9}, 9, 5},
		{7, []int{7}, 7, 7},
		{4, []int{9, 5, 7}, 5, 4},
		{6, []int{5, 9, 7}, 5, 5},
		{8, []int{9, 7, 5}, 5, 5},
		{0, []int{9, 7}, 7, 0},
		{9, []int{0, 7}, 0, 0},
		{9, []int{week, week + 1}, week, 9},
		{-3, []int{-5, 7}, -5, -5},
		{-5, []int{-3, 7}, -3, -5},
		{math.MaxInt, []int{math.MaxInt}, math.MaxInt, math.MaxInt},
		{math.MinInt, []int{math.MaxInt}, math.MaxInt, math.MinInt},
	} {
		for _, end := range []int{Found, Missing, Long, -1, 5, math.MaxInt} {
			if got := lasting(end, c.soaLeft, c.lefts...).Least(); got != c.without {
				t.Errorf("Least of %v, %d, End %d: %d, want %d", c.lefts, c.soaLeft, end, got, c.without)
			}
		}
		for _, end := range []int{NoData, Nothing} {
			if got := lasting(end, c.soaLeft, c.lefts...).Least(); got != c.with {
				t.Errorf("Least of %v, %d, End %d: %d, want %d", c.lefts, c.soaLeft, end, got, c.with)
			}
		}
	}
}

// slow goes on from name to name by calling itself.
func (w world) slow(now int, q api.Question, name string, ahead []Hit) Chain {
	at := func(kind int) (store.Item, bool) {
		i, is := w.sets.Peek(now, api.Question{Name: name, Type: kind, Class: q.Class})
		return i, is && i.Rank > 2
	}
	if i, is := at(q.Type); is {
		return Chain{Hits: append(ahead, Hit{i.Set, min(i.Until-now, week)}), End: 0, Name: name}
	}
	if i, is := at(5); is {
		to := i.Set.Datas[0]
		hits := append(ahead, Hit{i.Set, min(i.Until-now, week)})
		if len(ahead) == 8 || to == q.Name || slices.ContainsFunc(ahead, func(h Hit) bool { return h.Set.Datas[0] == to }) {
			return Chain{Hits: hits, End: 4, Name: name}
		}
		return w.slow(now, q, to, hits)
	}
	if i, is := w.none.Find(now, api.Question{Name: name, Type: q.Type, Class: q.Class}); is {
		end := 1
		if i.Nx {
			end = 2
		}
		return Chain{Hits: ahead, End: end, Name: name, Soa: Hit{i.Soa, min(i.Until-now, week)}}
	}
	return Chain{Hits: ahead, End: 3, Name: name}
}

// drawn is a world of a few names, most of them aliases.
func drawn(t *testing.T, draw *rand.Rand, names int) world {
	w := newWorld(t)
	label := func() string { return strconv.Itoa(draw.Intn(names)) }
	// Puts that give way to a higher rank are told ErrRank: what is kept is as good.
	for range draw.Intn(3 * names) {
		w.sets.Put(0, set(label(), api.CNAME, 1+draw.Intn(20), n(label())), 1+draw.Intn(5))
	}
	for range draw.Intn(4) {
		w.sets.Put(0, set(label(), api.A, 1+draw.Intn(20), "1111"), 1+draw.Intn(5))
		w.lacks(key(label(), []int{api.A, api.CNAME, api.MX}[draw.Intn(3)]), draw.Intn(2) == 0, soa(1+draw.Intn(20), 99))
	}
	return w
}

// P16.2 to P16.4: worlds that are drawn; there are never more than nine hits, all but the last one are aliases, each leads to the next.
func TestDrawn(t *testing.T) {
	draw := rand.New(rand.NewSource(16))
	ends := make([]int, 5)
	for range 20000 {
		names := 1 + draw.Intn(14)
		w, now := drawn(t, draw, names), draw.Intn(22)
		q := key(strconv.Itoa(draw.Intn(names)), []int{api.A, api.CNAME, api.MX}[draw.Intn(3)])
		w.follows(now, q, w.slow(now, q, q.Name, nil))
		c := Follow(w.sets, w.none, now, q)
		ends[c.End]++
		if len(c.Hits) > 9 {
			t.Fatalf("%d hits", len(c.Hits))
		}
		name, least := q.Name, math.MaxInt
		for i, h := range c.Hits {
			to, is := Target(h.Set)
			if h.Set.Key.Name != name || !is && i < len(c.Hits)-1 || h.Left < 1 || c.Keys()[i] != h.Set.Key {
				t.Fatalf("hit %d of %s", i, text(c))
			}
			name, least = to, min(least, h.Left)
		}
		if len(c.Hits) > 0 && c.End != NoData && c.End != Nothing && c.Least() != least {
			t.Fatalf("Least of %s: %d", text(c), c.Least())
		}
		if t.Failed() {
			return
		}
	}
	if slices.Min(ends) < 100 {
		t.Errorf("the ends that were drawn are too few: %v", ends)
	}
}

// The chapter's example.
func ExampleFollow() {
	s := store.New(10)
	s.Put(0, set("a", api.CNAME, 30, n("b")), 5)
	s.Put(0, set("b", api.A, 20, "1111"), 5)
	c := Follow(s, neg.New(10), 5, key("a", api.A))
	fmt.Println(len(c.Hits), c.End == Found, c.Least())
	// Output:
	// 2 true 15
}
