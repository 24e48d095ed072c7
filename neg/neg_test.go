package neg

import (
	"fmt"
	"math"
	"math/rand"
	"slices"
	"strconv"
	"strings"
	"testing"

	"wellspring/api"
)

const (
	week = 604800
	top  = 1099511627776
)

var noTimes = []int{math.MinInt, -top, -1, top + 1, 2 * top, math.MaxInt}

// key is that of addresses of a name of one label.
func key(label string) api.Question { return typed(label, api.A) }

func typed(label string, kind int) api.Question {
	return api.Question{Name: string(rune(len(label))) + label + "\x00", Type: kind, Class: 1}
}

// fields are the twenty bytes of an SOA, of which the last four are its minimum.
func fields(minimum int) string {
	return "\x7f\x01\x02\x03\x04\x05\x06\x07\x08\x09\x0a\x0b\x0c\x0d\x0e\x0f" + string([]byte{byte(minimum >> 24), byte(minimum >> 16), byte(minimum >> 8), byte(minimum)})
}

// soa is one of the root.
func soa(ttl int, minimum int) api.Set {
	return api.Set{Key: api.Question{Name: "\x00", Type: api.SOA, Class: 1}, Datas: []string{"\x01m\x00\x01r\x00" + fields(minimum)}, TTL: ttl}
}

// bad are sets that tell no minimum, each for one cause alone.
func bad() []api.Set {
	all := []api.Set{{}}
	for _, change := range []func(s *api.Set){
		func(s *api.Set) { s.Key.Name = "" },
		func(s *api.Set) { s.Key.Name = "a" },
		func(s *api.Set) { s.Key.Name = "\x01A\x00" },
		func(s *api.Set) { s.Key.Name = "\x01a\x00\x00" },
		func(s *api.Set) { s.Key.Type = -1 },
		func(s *api.Set) { s.Key.Type = 0 },
		func(s *api.Set) { s.Key.Type = 65536 },
		func(s *api.Set) { s.Key.Type = 65536 + api.SOA },
		func(s *api.Set) { s.Key.Class = -1 },
		func(s *api.Set) { s.Key.Class = 65536 },
		func(s *api.Set) { s.TTL = -1 },
		func(s *api.Set) { s.TTL = math.MinInt },
		func(s *api.Set) { s.TTL = 1 << 31 },
		func(s *api.Set) { s.TTL = math.MaxInt },
		func(s *api.Set) { s.Datas = nil },
		func(s *api.Set) { s.Datas = []string{} },
		func(s *api.Set) { s.Datas = []string{""} },
		func(s *api.Set) { s.Datas = []string{"\x00\x00\x07"} },
		func(s *api.Set) { s.Datas = []string{fields(9)} },
		func(s *api.Set) { s.Datas = []string{"\x00\x00" + fields(9) + "x"} },
		func(s *api.Set) { s.Datas = []string{"\x00\x00" + fields(9)[1:]} },
		func(s *api.Set) { s.Datas = []string{"\x01M\x00\x01r\x00" + fields(9)} },
		func(s *api.Set) { s.Datas = append(s.Datas, s.Datas[0]) },
		func(s *api.Set) { s.Datas = append(s.Datas, "x") },
		// What has the shape of an SOA, or is like it, but is of another type.
		func(s *api.Set) { s.Key.Type = 99 },
		func(s *api.Set) { s.Key.Type = 65535 },
		func(s *api.Set) { s.Key.Type, s.Datas = api.A, []string{"\x00\x00\x00\x09"} },
		func(s *api.Set) { s.Key.Type, s.Datas = api.TXT, []string{"\x04\x00\x00\x00\x09"} },
	} {
		s := soa(10, 10)
		change(&s)
		all = append(all, s)
	}
	return all
}

func text(i Item) string { return fmt.Sprintf("%q", fmt.Sprint(i)) }

func put(t *testing.T, n *Neg, now int, k api.Question, nx bool, x api.Set, want api.Errno) {
	t.Helper()
	if got := n.Put(now, k, nx, x); got != want {
		t.Errorf("Put(%d, %.100q, %v, %.100q) = %d, want %d", now, fmt.Sprint(k), nx, fmt.Sprint(x), got, want)
	}
}

// keeps checks which keys are kept, in order, and how many changes there were.
func keeps(t *testing.T, n *Neg, changes int, want ...api.Question) {
	t.Helper()
	if got := n.Keys(); !slices.Equal(got, want) {
		t.Errorf("the keys are %v, want %v", got, want)
	}
	if got := n.Changes(); got != changes {
		t.Errorf("%d changes, want %d", got, changes)
	}
}

// tells checks that this item is found of k.
func tells(t *testing.T, n *Neg, now int, k api.Question, want Item) {
	t.Helper()
	if got, is := n.Find(now, k); !is || text(got) != text(want) {
		t.Errorf("at %d, of %v: %s, %v, want %s", now, k, text(got), is, text(want))
	}
}

func tellsNothing(t *testing.T, n *Neg, now int, k api.Question) {
	t.Helper()
	if got, is := n.Find(now, k); is || text(got) != text(Item{}) {
		t.Errorf("at %d, of %v: Find tells %s, %v", now, k, text(got), is)
	}
}

// P15.1
func TestMinimum(t *testing.T) {
	for _, c := range []struct{ ttl, minimum, want int }{
		{0, 0, 0},
		{0, 9, 0},
		{9, 0, 0},
		{5, 9, 5},
		{9, 5, 5},
		{9, 9, 9},
		{1, 256, 1},
		{300, 256, 256},
		{1 << 17, 1 << 16, 1 << 16},
		{1 << 25, 1 << 24, 1 << 24},
		{1<<31 - 1, 0x01020304, 0x01020304},
		{1<<31 - 1, 1<<31 - 1, 1<<31 - 1},
		{1<<31 - 1, 1 << 31, 1<<31 - 1},
		{1<<31 - 1, 1<<32 - 1, 1<<31 - 1},
		{7, 1<<32 - 1, 7},
		{week + 1, week + 2, week + 1},
	} {
		if got, is := Minimum(soa(c.ttl, c.minimum)); got != c.want || !is {
			t.Errorf("Minimum of %d and %d = %d, %v, want %d", c.ttl, c.minimum, got, is, c.want)
		}
	}
	for _, s := range bad() {
		if got, is := Minimum(s); got != 0 || is {
			t.Errorf("Minimum(%.100q) = %d, %v", fmt.Sprint(s), got, is)
		}
	}
}

// P15.1: of several data the first one counts; names of any length, and any class, are as good.
func TestMinimumFirst(t *testing.T) {
	s := soa(100, 20)
	s.Datas = append(s.Datas, "\x00\x00"+fields(10), "\x00\x00"+fields(30))
	for want := range 2 {
		if got, is := Minimum(s); got != 20-10*want || !is {
			t.Errorf("Minimum = %d, %v", got, is)
		}
		s.Datas = s.Datas[1:]
	}
	most := strings.Repeat("\x3f"+strings.Repeat("x", 63), 3) + "\x3d" + strings.Repeat("y", 61) + "\x00"
	for _, names := range []string{"\x00\x00", "\x00" + most, most + "\x00", most + most} {
		s := soa(100, 0)
		s.Key.Name, s.Key.Class, s.Datas = most, 65535, []string{names + fields(17)}
		if got, is := Minimum(s); got != 17 || !is {
			t.Errorf("Minimum with names of %d bytes = %d, %v", len(names), got, is)
		}
	}
}

// P15.2
func TestNew(t *testing.T) {
	for _, room := range []int{math.MinInt, -1000, -1, 0, 1001, 1 << 32, 1<<32 + 1, math.MaxInt} {
		if New(room) != nil {
			t.Errorf("New(%d) is one", room)
		}
	}
	for _, room := range []int{1, 2, 3, 500, 999, 1000} {
		n := New(room)
		if n == nil {
			t.Fatalf("New(%d) is nil", room)
		}
		keeps(t, n, 0)
		tellsNothing(t, n, 0, key("a"))
		for i := range room + 5 {
			put(t, n, 7, key(strconv.Itoa(i)), i%2 == 1, soa(10, 10), api.OK)
			if got := len(n.Keys()); got != min(i+1, room) {
				t.Fatalf("room for %d: %d keys", room, got)
			}
		}
		tellsNothing(t, n, 7, key("4"))
		tells(t, n, 7, key("5"), Item{Key: typed("5", 0), Nx: true, Soa: soa(10, 10), Until: 17})
		if got := n.Changes(); got != room+5 {
			t.Errorf("room for %d: %d changes", room, got)
		}
	}
}

// P15.2 to P15.4: of nil; of one that New did not make, too.
func TestNoNeg(t *testing.T) {
	for i, n := range []*Neg{nil, {}, new(Neg)} {
		for _, now := range append([]int{0, 5}, noTimes...) {
			put(t, n, now, key("a"), true, soa(10, 10), api.ErrArg)
			put(t, n, now, key("a"), false, soa(0, 0), api.ErrArg)
			tellsNothing(t, n, now, key("a"))
			tellsNothing(t, n, now, api.Question{})
		}
		if n.Drop(key("a").Name) != 0 || n.Drop("") != 0 || n.Keys() != nil || n.Changes() != 0 {
			t.Errorf("case %d: it tells something", i)
		}
	}
}

// badKeys are keys each of which is out of one bound alone.
func badKeys() []api.Question {
	var all []api.Question
	for _, name := range []string{"", "a", "\x01", "\x01A\x00", "\x01a\x02bC\x00", "\x01a", "\x01a\x00\x00", "\xc0\x00", "\x40" + strings.Repeat("a", 64) + "\x00", strings.Repeat("\x01a", 128) + "\x00"} {
		all = append(all, api.Question{Name: name, Type: api.A, Class: 1})
	}
	for _, kind := range []int{math.MinInt, -1, 0, 65536, 65537, 1 << 32, math.MaxInt} {
		all = append(all, typed("a", kind))
	}
	for _, class := range []int{math.MinInt, -1, 65536, 65537, 1 << 32, math.MaxInt} {
		all = append(all, api.Question{Name: "\x01a\x00", Type: api.A, Class: class})
	}
	return append(all, api.Question{})
}

// P15.2: wrong inputs, ahead of ErrTime; nothing changes by them.
func TestPutErrArg(t *testing.T) {
	n := New(2)
	put(t, n, 0, key("a"), false, soa(10, 99), api.OK)
	put(t, n, 0, key("b"), true, soa(10, 99), api.OK)
	for _, nx := range []bool{false, true} {
		for _, s := range bad() {
			put(t, n, 5, key("a"), nx, s, api.ErrArg)
			put(t, n, 5, key("c"), nx, s, api.ErrArg)
		}
		for _, k := range badKeys() {
			put(t, n, 5, k, nx, soa(20, 99), api.ErrArg)
			put(t, n, 5, k, nx, soa(0, 99), api.ErrArg)
		}
		for _, now := range noTimes {
			put(t, n, now, key("a"), nx, soa(20, 99), api.ErrArg)
			put(t, n, now, key("c"), nx, soa(20, 99), api.ErrArg)
			put(t, n, now, key("c"), nx, soa(0, 99), api.ErrArg)
		}
	}
	keeps(t, n, 2, key("a"), typed("b", 0))
	tells(t, n, 9, key("a"), Item{Key: key("a"), Soa: soa(10, 99), Until: 10})
	tells(t, n, 9, key("b"), Item{Key: typed("b", 0), Nx: true, Soa: soa(10, 99), Until: 10})
	tellsNothing(t, n, 10, key("a"))
	tellsNothing(t, n, 10, key("b"))
}

// P15.2: a least time of 0, be anything kept of the key or not.
func TestPutErrTime(t *testing.T) {
	n := New(2)
	put(t, n, 5, key("a"), false, soa(0, 9), api.ErrTime)
	keeps(t, n, 0)
	put(t, n, 5, key("a"), false, soa(10, 99), api.OK)
	put(t, n, 5, key("b"), true, soa(10, 99), api.OK)
	for _, now := range []int{0, 5, 14, 15, 50, top} {
		for _, s := range []api.Set{soa(0, 0), soa(0, 9), soa(9, 0), soa(1<<31-1, 0)} {
			for _, nx := range []bool{false, true} {
				put(t, n, now, key("a"), nx, s, api.ErrTime)
				put(t, n, now, key("c"), nx, s, api.ErrTime)
			}
		}
	}
	keeps(t, n, 2, key("a"), typed("b", 0))
	tells(t, n, 14, key("a"), Item{Key: key("a"), Soa: soa(10, 99), Until: 15})
	tellsNothing(t, n, 15, key("a"))
}

// P15.2: until when it lives, by the least of both times, but a week at most; what is told of soa is what was put.
func TestPutUntil(t *testing.T) {
	for _, c := range []struct{ now, ttl, minimum, until int }{
		{0, 1, 99, 1},
		{0, 99, 1, 1},
		{10, 5, 6, 15},
		{10, 6, 5, 15},
		{10, week - 1, 1<<32 - 1, 10 + week - 1},
		{10, week, week, 10 + week},
		{10, week + 1, week + 1, 10 + week},
		{10, 1<<31 - 1, 1<<32 - 1, 10 + week},
		{10, 1<<31 - 1, 7, 17},
		{top, 1, 1, top + 1},
		{top, 1<<31 - 1, 1<<32 - 1, top + week},
		{top - 1, 1, 1, top},
	} {
		for _, nx := range []bool{false, true} {
			n := New(1)
			put(t, n, c.now, key("a"), nx, soa(c.ttl, c.minimum), api.OK)
			want := Item{Key: key("a"), Nx: nx, Soa: soa(c.ttl, c.minimum), Until: c.until}
			if nx {
				want.Key.Type = 0
			}
			tells(t, n, c.now, key("a"), want)
			tells(t, n, min(c.until-1, top), key("a"), want)
			tellsNothing(t, n, c.until, key("a"))
			keeps(t, n, 1, want.Key)
		}
	}
}

// P15.2: keys at their edges; of whatever type Nx is put, its place is one.
func TestPutKeys(t *testing.T) {
	most := strings.Repeat("\x3f"+strings.Repeat("x", 63), 3) + "\x3d" + strings.Repeat("y", 61) + "\x00"
	for _, name := range []string{"\x00", "\x01a\x00", "\x03a-b\x02\xc0\x00\x00", most} {
		for _, class := range []int{0, 1, 65535} {
			for _, kind := range []int{1, api.CNAME, api.OPT, 255, 65535} {
				k, whole := api.Question{Name: name, Type: kind, Class: class}, api.Question{Name: name, Class: class}
				n := New(3)
				put(t, n, 0, api.Question{Name: name, Type: 7, Class: class}, true, soa(5, 99), api.OK)
				put(t, n, 0, k, true, soa(10, 99), api.OK)
				keeps(t, n, 2, whole)
				put(t, n, 0, k, false, soa(20, 99), api.OK)
				keeps(t, n, 3, whole, k)
				tells(t, n, 9, k, Item{Key: whole, Nx: true, Soa: soa(10, 99), Until: 10})
				tells(t, n, 10, k, Item{Key: k, Soa: soa(20, 99), Until: 20})
			}
		}
	}
}

// P15.2: what is put again is the last one put, with what it was put with; Find makes no difference.
func TestRoom(t *testing.T) {
	n := New(3)
	for _, l := range []string{"a", "b", "c"} {
		put(t, n, 0, key(l), false, soa(10, 99), api.OK)
	}
	n.Find(0, key("a"))
	keeps(t, n, 3, key("a"), key("b"), key("c"))
	put(t, n, 1, key("a"), false, soa(5, 99), api.OK)
	keeps(t, n, 4, key("b"), key("c"), key("a"))
	tells(t, n, 1, key("a"), Item{Key: key("a"), Soa: soa(5, 99), Until: 6})
	n.Find(1, key("b"))
	put(t, n, 1, key("d"), true, soa(10, 99), api.OK)
	keeps(t, n, 5, key("c"), key("a"), typed("d", 0))
	tellsNothing(t, n, 1, key("b"))
	put(t, n, 6, key("a"), true, soa(10, 99), api.OK) // the other one of a is dead, and is kept
	keeps(t, n, 6, key("a"), typed("d", 0), typed("a", 0))
	put(t, n, 6, typed("d", api.NS), true, soa(30, 99), api.OK)
	keeps(t, n, 7, key("a"), typed("a", 0), typed("d", 0))
	tells(t, n, 35, key("d"), Item{Key: typed("d", 0), Nx: true, Soa: soa(30, 99), Until: 36})
	put(t, n, 6, typed("d", api.NS), false, soa(10, 99), api.OK)
	keeps(t, n, 8, typed("a", 0), typed("d", 0), typed("d", api.NS))
	// What is put again needs no room.
	put(t, n, 7, key("a"), true, soa(1, 99), api.OK)
	keeps(t, n, 9, typed("d", 0), typed("d", api.NS), typed("a", 0))
	// An old one goes, be it live or not.
	put(t, n, 20, key("e"), false, soa(10, 99), api.OK)
	keeps(t, n, 10, typed("d", api.NS), typed("a", 0), key("e"))
}

// P15.3: what is said of the name goes ahead, while it lives.
func TestFind(t *testing.T) {
	n := New(9)
	put(t, n, 0, key("a"), false, soa(30, 99), api.OK)
	put(t, n, 10, key("a"), true, soa(10, 99), api.OK)
	put(t, n, 0, typed("b", api.NS), false, soa(30, 99), api.OK)
	typeless := Item{Key: key("a"), Soa: soa(30, 99), Until: 30}
	whole := Item{Key: typed("a", 0), Nx: true, Soa: soa(10, 99), Until: 20}
	for now, want := range map[int]Item{0: whole, 10: whole, 19: whole, 20: typeless, 29: typeless} {
		tells(t, n, now, key("a"), want)
	}
	for _, kind := range []int{0, 2, 41, 65535, 65536, -1, math.MaxInt} {
		tells(t, n, 19, typed("a", kind), whole)
		tellsNothing(t, n, 20, typed("a", kind))
	}
	for _, kind := range []int{0, 1, 3, 65535} {
		tellsNothing(t, n, 0, typed("b", kind))
	}
	for _, now := range append([]int{30, 31, top}, noTimes...) {
		tellsNothing(t, n, now, key("a"))
		tellsNothing(t, n, now, typed("b", api.NS))
		tellsNothing(t, n, now, api.Question{})
	}
	keeps(t, n, 3, key("a"), typed("a", 0), typed("b", api.NS))
}

// P15.3: each part of a key counts.
func TestKeysAreExact(t *testing.T) {
	n := New(9)
	k := api.Question{Name: "\x01a\x01b\x00", Type: api.A, Class: 1}
	put(t, n, 0, k, false, soa(10, 99), api.OK)
	put(t, n, 0, api.Question{Name: "\x01x\x00", Type: api.A, Class: 1}, true, soa(10, 99), api.OK)
	for _, other := range []api.Question{
		{},
		{Name: "\x01A\x01b\x00", Type: api.A, Class: 1},
		{Name: "\x01b\x00", Type: api.A, Class: 1},
		{Name: "\x01a\x00", Type: api.A, Class: 1},
		{Name: "\x00", Type: api.A, Class: 1},
		{Name: k.Name, Type: api.NS, Class: 1},
		{Name: k.Name, Class: 1},
		{Name: k.Name, Type: api.A},
		{Name: k.Name, Type: api.A, Class: 3},
		{Name: "\x01X\x00", Type: api.A, Class: 1},
		{Name: "\x01y\x01x\x00", Type: api.A, Class: 1},
		{Name: "\x01x\x00", Type: api.A, Class: 3},
		{Name: "\x01x\x00", Type: api.A},
	} {
		tellsNothing(t, n, 0, other)
	}
	tells(t, n, 0, k, Item{Key: k, Soa: soa(10, 99), Until: 10})
}

// P15.4: all of a name, of each class and type, live or not, and nothing else; the others stay in their order.
func TestDrop(t *testing.T) {
	n := New(20)
	drop := func(name string, want int) {
		t.Helper()
		if got := n.Drop(name); got != want {
			t.Errorf("Drop(%q) = %d, want %d", name, got, want)
		}
	}
	drop("\x01a\x00", 0)
	a3 := api.Question{Name: "\x01a\x00", Type: api.A, Class: 3}
	ba := api.Question{Name: "\x01b\x01a\x00", Type: api.A, Class: 1}
	put(t, n, 0, key("a"), false, soa(10, 99), api.OK)
	put(t, n, 0, key("b"), false, soa(10, 99), api.OK)
	put(t, n, 0, a3, false, soa(10, 99), api.OK)
	put(t, n, 0, ba, false, soa(10, 99), api.OK)
	put(t, n, 0, key("a"), true, soa(1, 99), api.OK)
	put(t, n, 0, typed("c", 9), true, soa(10, 99), api.OK)
	put(t, n, 5, typed("a", api.MX), false, soa(10, 99), api.OK)
	for _, name := range []string{"", "a", "\x00", "\x01A\x00", "\x01a", "\x01z\x00"} {
		drop(name, 0)
	}
	keeps(t, n, 7, key("a"), key("b"), a3, ba, typed("a", 0), typed("c", 0), typed("a", api.MX))
	drop("\x01a\x00", 4)
	keeps(t, n, 8, key("b"), ba, typed("c", 0))
	for _, k := range []api.Question{key("a"), a3, typed("a", api.MX), typed("a", 0)} {
		tellsNothing(t, n, 5, k)
	}
	tells(t, n, 5, key("b"), Item{Key: key("b"), Soa: soa(10, 99), Until: 10})
	drop("\x01a\x00", 0)
	keeps(t, n, 8, key("b"), ba, typed("c", 0))
	drop("\x01c\x00", 1)
	drop("\x01b\x00", 1)
	drop("\x01b\x01a\x00", 1)
	drop("\x01b\x01a\x00", 0)
	keeps(t, n, 11)
	put(t, n, 0, key("a"), true, soa(10, 99), api.OK)
	keeps(t, n, 12, typed("a", 0))
}

// P15.4: as many of one name as there is room for.
func TestDropMany(t *testing.T) {
	n := New(1000)
	for i := range 1100 {
		put(t, n, 0, typed("a", i+1), false, soa(10, 99), api.OK)
	}
	put(t, n, 0, key("b"), false, soa(10, 99), api.OK)
	if got := n.Drop("\x01a\x00"); got != 999 {
		t.Errorf("Drop = %d", got)
	}
	keeps(t, n, 1102, key("b"))
}

// R5: what was put, and what was told, is the caller's own.
func TestIsNew(t *testing.T) {
	n := New(3)
	x := soa(10, 99)
	x.Datas = append(x.Datas, "\x00\x00"+fields(1))
	put(t, n, 0, key("a"), true, x, api.OK)
	put(t, n, 0, key("b"), false, x, api.OK)
	datas := slices.Clone(x.Datas)
	want := Item{Key: typed("a", 0), Nx: true, Soa: api.Set{Key: x.Key, Datas: datas, TTL: 10}, Until: 10}
	x.Datas[0] = "changed"
	_ = append(x.Datas[:1], "changed")
	tells(t, n, 0, key("a"), want)
	got, _ := n.Find(0, key("a"))
	before, _ := n.Find(0, key("a"))
	got.Soa.Datas[1] = "changed"
	_ = append(got.Soa.Datas[:1], "changed")
	tells(t, n, 0, key("a"), want)
	if text(before) != text(want) {
		t.Errorf("changed, too: %s", text(before))
	}
	keys := n.Keys()
	keys[0] = key("z")
	_ = append(keys, key("z"))
	keeps(t, n, 2, typed("a", 0), key("b"))
	keys = n.Keys()
	put(t, n, 0, key("a"), true, soa(9, 9), api.OK)
	n.Drop("\x01b\x00")
	if !slices.Equal(keys, []api.Question{typed("a", 0), key("b")}) {
		t.Errorf("what was told is %v now", keys)
	}
	other := New(3)
	put(t, other, 0, key("c"), false, soa(10, 99), api.OK)
	keeps(t, other, 1, key("c"))
	keeps(t, n, 4, typed("a", 0))
}

// slow goes through a list, from the one that was put first on.
type slow struct {
	room    int
	items   []Item
	changes int
}

func (s *slow) put(now int, k api.Question, nx bool, x api.Set, minimum int) api.Errno {
	if now < 0 || k.Type == 0 {
		return api.ErrArg
	}
	lives := min(x.TTL, minimum, week)
	if lives == 0 {
		return api.ErrTime
	}
	if nx {
		k.Type = 0
	}
	s.items = slices.DeleteFunc(s.items, func(i Item) bool { return i.Key == k })
	s.items = append(s.items, Item{Key: k, Nx: nx, Soa: x, Until: now + lives})
	if len(s.items) > s.room {
		s.items = s.items[1:]
	}
	s.changes++
	return api.OK
}

func (s *slow) find(now int, k api.Question) (Item, bool) {
	var found Item
	for _, i := range s.items {
		ofName := i.Nx && i.Key.Name == k.Name && i.Key.Class == k.Class
		if now >= 0 && i.Until > now && !found.Nx && (ofName || i.Key == k) {
			found = i
		}
	}
	return found, found.Until > 0
}

func (s *slow) drop(name string) int {
	before := len(s.items)
	s.items = slices.DeleteFunc(s.items, func(i Item) bool { return i.Key.Name == name })
	if len(s.items) < before {
		s.changes++
	}
	return before - len(s.items)
}

func (s *slow) keys() []api.Question {
	var keys []api.Question
	for _, i := range s.items {
		keys = append(keys, i.Key)
	}
	return keys
}

// step does one thing that is drawn to both, and tells what each answers.
func step(draw *rand.Rand, n *Neg, m *slow, now int) (string, string, string) {
	k := api.Question{Name: "\x01" + string(rune('a'+draw.Intn(1+m.room/2))) + "\x00", Type: draw.Intn(4), Class: draw.Intn(2)}
	switch draw.Intn(9) {
	case 0, 1, 2, 3, 4:
		ttl, minimum, nx := draw.Intn(20), draw.Intn(20), draw.Intn(3) == 0
		x := soa(ttl, minimum)
		return "Put", fmt.Sprint(n.Put(now, k, nx, x)), fmt.Sprint(m.put(now, k, nx, x, minimum))
	case 5, 6, 7:
		a, isA := n.Find(now, k)
		b, isB := m.find(now, k)
		return "Find", fmt.Sprint(text(a), isA), fmt.Sprint(text(b), isB)
	}
	return "Drop", fmt.Sprint(n.Drop(k.Name)), fmt.Sprint(m.drop(k.Name))
}

// P15.2 to P15.5: many things one behind the other, that are drawn, while time goes by; there are never more than room.
func TestDrawn(t *testing.T) {
	for room := 1; room <= 9; room++ {
		draw := rand.New(rand.NewSource(int64(room)))
		n, m, now := New(room), &slow{room: room}, -3
		for range 5000 {
			what, got, want := step(draw, n, m, now)
			if got != want {
				t.Fatalf("room for %d, at %d: %s tells %s, want %s", room, now, what, got, want)
			}
			keys := n.Keys()
			if !slices.Equal(keys, m.keys()) || len(keys) > room || n.Changes() != m.changes {
				t.Fatalf("room for %d, at %d, behind %s: %v, want %v; %d changes, want %d", room, now, what, keys, m.keys(), n.Changes(), m.changes)
			}
			now += draw.Intn(3)
		}
	}
}

// P15.5: a name of which there is nothing has nothing of any type, whatever is put of its types.
func TestNothingOfAnyType(t *testing.T) {
	n := New(1000)
	put(t, n, 0, typed("a", 7), true, soa(10, 99), api.OK)
	whole := Item{Key: typed("a", 0), Nx: true, Soa: soa(10, 99), Until: 10}
	for kind := 1; kind < 65536; kind += 97 {
		put(t, n, 0, typed("a", kind), false, soa(5, 99), api.OK)
		for now := range 10 {
			tells(t, n, now, typed("a", kind), whole)
			tells(t, n, now, typed("a", kind-1), whole)
		}
	}
}

// The chapter's example.
func ExampleNeg_Find() {
	n := New(2)
	n.Put(0, api.Question{Name: "\x01a\x00", Type: api.A, Class: 1}, true, soa(60, 60))
	for _, kind := range []int{api.A, api.NS, api.TXT} {
		item, is := n.Find(5, api.Question{Name: "\x01a\x00", Type: kind, Class: 1})
		fmt.Println(item.Nx, is)
	}
	// Output:
	// true true
	// true true
	// true true
}
