package group

import (
	"fmt"
	"math"
	"math/rand"
	"slices"
	"strconv"
	"strings"
	"testing"

	"wellspring/api"
	"wellspring/data"
	"wellspring/name"
	"wellspring/record"
)

var (
	x63 = strings.Repeat("x", 63)
	// most is a name of 255 bytes, in small letters.
	most = strings.Repeat("\x3f"+x63, 3) + "\x3d" + strings.Repeat("y", 61) + "\x00"
	s20  = strings.Repeat("S", 20)
)

func rr(n string, kind int, ttl int, d string) api.RR {
	return api.RR{Name: n, Type: kind, Class: 1, TTL: ttl, Data: d}
}

func set(n string, kind int, ttl int, datas ...string) api.Set {
	return api.Set{Key: api.Question{Name: n, Type: kind, Class: 1}, Datas: datas, TTL: ttl}
}

// good are sets that may be, of each shape, at the edges of each number.
func good() []api.Set {
	all := []api.Set{
		{Key: api.Question{Name: "\x00"}, Datas: []string{""}},
		{Key: api.Question{Name: "\x00", Type: 65535, Class: 65535}, Datas: []string{"", strings.Repeat("X", 65535)}, TTL: 1<<31 - 1},
	}
	for _, n := range []string{"\x00", "\x01a\x00", "\x04a-_0\x02\x00\xc1\x00", "\x03\xc3\x84b\x00", most} {
		all = append(all,
			set(n, api.A, 0, "abcd"),
			set(n, api.A, 5, "ABCD", "abcd", "\x00\x00\x00\x00"),
			set(n, api.AAAA, 604800, "ABCDEFGHIJKLMNOP"),
			set(n, api.NS, 5, "\x00", "\x01a\x00", "\x02aa\x00", most),
			set(n, api.CNAME, 5, "\x01c\x00"),
			set(n, api.PTR, 5, "\x01p\x00", "\x01[\x00"),
			set(n, api.SOA, 5, "\x01a\x00\x01b\x00"+s20, "\x01a\x00\x01c\x00"+s20),
			set(n, api.MX, 5, "AB\x01a\x00", "ab\x01a\x00"),
			set(n, api.SRV, 5, "ABCDEF\x00", "abcdef\x00"),
			set(n, api.TXT, 5, "\x01A", "\x01a", "\x00"),
			set(n, api.OPT, 5, "", "A"),
			set(n, 99, 5, "\x01A\x00", "\x01a\x00"),
		)
	}
	return all
}

// bad are sets each of which is out of one bound alone.
func bad() []api.Set {
	all := []api.Set{{}}
	add := func(change func(s *api.Set)) {
		s := set("\x01a\x00", 99, 5, "x", "y")
		change(&s)
		all = append(all, s)
	}
	for _, n := range []string{"", "a", "\x01a", "\x00\x00", "\xc0\x00", "\x01A\x00", "\x01a\x02bC\x00", "\x01Z\x00", "\x40" + x63 + "x\x00", "\x01a" + most} {
		add(func(s *api.Set) { s.Key.Name = n })
	}
	for _, n := range []int{math.MinInt, -1, 65536, 1 << 32, math.MaxInt} {
		add(func(s *api.Set) { s.Key.Type = n })
		add(func(s *api.Set) { s.Key.Class = n })
	}
	for _, n := range []int{math.MinInt, -1, 1 << 31, 1 << 32, math.MaxInt} {
		add(func(s *api.Set) { s.TTL = n })
	}
	add(func(s *api.Set) { s.Datas = nil })
	add(func(s *api.Set) { s.Datas = []string{} })
	add(func(s *api.Set) { s.Datas = []string{"x", "x"} })
	add(func(s *api.Set) { s.Datas = []string{"x", "y", "z", "y"} })
	add(func(s *api.Set) { s.Datas = []string{"", "y", ""} })
	add(func(s *api.Set) { s.Datas = []string{"x", strings.Repeat("x", 65536)} })
	for kind, d := range map[int]string{api.A: "abc", api.AAAA: "abcd", api.NS: "\xc0\x00", api.CNAME: "", api.PTR: "\x00\x00", api.SOA: "\x00\x00", api.MX: "\x00", api.SRV: "\x00", api.TXT: "\x02a"} {
		add(func(s *api.Set) { s.Key.Type, s.Datas = kind, []string{d} })
	}
	// Great letters in names.
	for kind, d := range map[int]string{api.NS: "\x01A\x00", api.CNAME: "\x01a\x01B\x00", api.PTR: "\x02aZ\x00", api.SOA: "\x00\x01A\x00" + s20, api.MX: "ab\x01A\x00", api.SRV: "abcdef\x01A\x00"} {
		add(func(s *api.Set) { s.Key.Type, s.Datas = kind, []string{d} })
	}
	// A bad one behind a good one, and ahead of it.
	add(func(s *api.Set) { s.Key.Type, s.Datas = api.A, []string{"abcd", "abc"} })
	add(func(s *api.Set) { s.Key.Type, s.Datas = api.A, []string{"abc", "abcd"} })
	add(func(s *api.Set) { s.Key.Type, s.Datas = api.NS, []string{"\x01a\x00", "\x01B\x00"} })
	return all
}

// badRecords are records each of which is out of one bound alone.
func badRecords() []api.RR {
	all := []api.RR{{}}
	for _, n := range []string{"", "a", "\x01a", "\x00\x00", "\xc0\x00", "\x01a" + most} {
		all = append(all, rr(n, api.A, 5, "abcd"))
	}
	for _, n := range []int{math.MinInt, -1, 65536, math.MaxInt} {
		all = append(all, rr("\x01a\x00", n, 5, "abcd"), api.RR{Name: "\x01a\x00", Type: api.A, Class: n, Data: "abcd"})
	}
	for _, n := range []int{math.MinInt, -1, 1 << 31, math.MaxInt} {
		all = append(all, rr("\x01a\x00", api.A, n, "abcd"))
	}
	return append(all, rr("\x01a\x00", api.A, 5, "abc"), rr("\x01a\x00", api.NS, 5, "\xc0\x00"), rr("\x01a\x00", api.TXT, 5, ""))
}

func sameAll(t *testing.T, what string, got []api.Set, want []api.Set) {
	t.Helper()
	if len(got) != len(want) {
		t.Fatalf("%s: %d sets, %.200q, want %d, %.200q", what, len(got), fmt.Sprint(got), len(want), fmt.Sprint(want))
	}
	for i := range got {
		if got[i].Key != want[i].Key || got[i].TTL != want[i].TTL || !slices.Equal(got[i].Datas, want[i].Datas) {
			t.Fatalf("%s: set %d: %.200q, want %.200q", what, i, fmt.Sprint(got[i]), fmt.Sprint(want[i]))
		}
	}
}

// P10.1
func TestKey(t *testing.T) {
	for _, c := range []struct {
		r    api.RR
		want api.Question
	}{
		{rr("\x00", api.A, 0, "abcd"), api.Question{Name: "\x00", Type: 1, Class: 1}},
		{rr("\x03WwW\x01a\x00", api.NS, 1<<31-1, "\x01N\x00"), api.Question{Name: "\x03www\x01a\x00", Type: 2, Class: 1}},
		{api.RR{Name: "\x04@AZ[\x00", Type: 65535, Class: 65535, TTL: 9, Data: "x"}, api.Question{Name: "\x04@az[\x00", Type: 65535, Class: 65535}},
		{api.RR{Name: "\x00"}, api.Question{Name: "\x00"}},
		{rr(strings.ToUpper(most), 99, 5, ""), api.Question{Name: most, Type: 99, Class: 1}},
		{api.RR{Name: "\x00", Type: api.OPT, Class: 4096}, api.Question{Name: "\x00", Type: 41, Class: 4096}},
	} {
		if got := Key(c.r); got != c.want {
			t.Errorf("Key(%.200q) = %.200q, want %.200q", fmt.Sprint(c.r), fmt.Sprint(got), fmt.Sprint(c.want))
		}
	}
	for _, r := range badRecords() {
		if got := Key(r); got != (api.Question{}) {
			t.Errorf("Key(%.200q) = %.200q", fmt.Sprint(r), fmt.Sprint(got))
		}
	}
}

// P10.1
func TestCheck(t *testing.T) {
	for _, s := range good() {
		if !Check(s) {
			t.Errorf("Check(%.200q) = false", fmt.Sprint(s))
		}
	}
	for _, s := range bad() {
		if Check(s) {
			t.Errorf("Check(%.200q) = true", fmt.Sprint(s))
		}
	}
}

// P10.2: the order of keys and of data, letters, and the least time.
func TestFrom(t *testing.T) {
	got := From([]api.RR{
		rr("\x01B\x00", api.NS, 9, "\x01N\x00"),
		rr("\x01a\x00", api.A, 7, "bbbb"),
		rr("\x01b\x00", api.NS, 8, "\x01M\x00"),
		rr("\x01A\x00", api.A, 7, "aaaa"),
		rr("\x01b\x00", api.A, 1, "bbbb"),
		rr("\x01b\x00", api.NS, 3, "\x01n\x00"), // twice, but its time counts
		rr("\x01a\x00", api.A, 8, "cccc"),
		rr("\x01a\x00", api.A, 9, "bbbb"),
		rr("\x01a\x00", api.A, 9, "BBBB"),
		{Name: "\x01a\x00", Type: api.A, Class: 3, TTL: 0, Data: "bbbb"},
		rr("\x01a\x00", api.TXT, 1<<31-1, "\x01A"),
		rr("\x01a\x00", api.TXT, 1<<31-1, "\x01a"),
		rr("\x01a\x00", api.SOA, 2, "\x01A\x00\x01B\x00"+s20),
		rr("\x01a\x00", api.MX, 2, "AB\x01B\x00"),
		rr("\x01a\x00", api.MX, 2, "ab\x01B\x00"),
		rr("\x01a\x00", 99, 2, "\x01B\x00"),
		rr("\x01a\x00", 99, 2, "\x01b\x00"),
	})
	sameAll(t, "From", got, []api.Set{
		set("\x01b\x00", api.NS, 3, "\x01n\x00", "\x01m\x00"),
		set("\x01a\x00", api.A, 7, "bbbb", "aaaa", "cccc", "BBBB"),
		set("\x01b\x00", api.A, 1, "bbbb"),
		{Key: api.Question{Name: "\x01a\x00", Type: api.A, Class: 3}, Datas: []string{"bbbb"}},
		set("\x01a\x00", api.TXT, 1<<31-1, "\x01A", "\x01a"),
		set("\x01a\x00", api.SOA, 2, "\x01a\x00\x01b\x00"+s20),
		set("\x01a\x00", api.MX, 2, "AB\x01b\x00", "ab\x01b\x00"),
		set("\x01a\x00", 99, 2, "\x01B\x00", "\x01b\x00"),
	})
}

// P10.2: what may not be, and what is of type OPT, is left out, and nothing of it counts.
func TestFromLeavesOut(t *testing.T) {
	opts := []api.RR{{Name: "\x00", Type: api.OPT, Class: 4096}, rr("\x01a\x00", api.OPT, 0, "abcd")}
	left := append(badRecords(), opts...)
	for _, l := range [][]api.RR{nil, {}, left, opts} {
		if got := From(l); got != nil {
			t.Errorf("From(%.200q) = %.200q", fmt.Sprint(l), fmt.Sprint(got))
		}
	}
	kept := []api.RR{rr("\x01a\x00", api.A, 7, "abcd"), rr("\x01a\x00", 40, 7, ""), rr("\x01a\x00", 42, 7, "")}
	want := []api.Set{set("\x01a\x00", api.A, 7, "abcd"), set("\x01a\x00", 40, 7, ""), set("\x01a\x00", 42, 7, "")}
	sameAll(t, "behind", From(append(slices.Clone(left), kept...)), want)
	sameAll(t, "ahead", From(append(slices.Clone(kept), left...)), want)
	var between []api.RR
	for _, r := range kept {
		between = append(append(between, left...), r)
	}
	sameAll(t, "between", From(between), want)
}

// slowFrom is From, told by going through the list again for each key and each data.
func slowFrom(l []api.RR) []api.Set {
	var sets []api.Set
	for i, first := range l {
		same := func(r api.RR) bool {
			return name.Same(r.Name, first.Name) && r.Type == first.Type && r.Class == first.Class
		}
		if !record.Check(first) || first.Type == api.OPT || slices.ContainsFunc(l[:i], func(r api.RR) bool { return record.Check(r) && same(r) }) {
			continue
		}
		s := api.Set{Key: api.Question{Name: strings.ToLower(first.Name), Type: first.Type, Class: first.Class}, TTL: math.MaxInt}
		for _, r := range l {
			if !record.Check(r) || !same(r) {
				continue
			}
			s.TTL = min(s.TTL, r.TTL)
			if d := data.Low(r.Type, r.Data); !slices.Contains(s.Datas, d) {
				s.Datas = append(s.Datas, d)
			}
		}
		sets = append(sets, s)
	}
	return sets
}

func drawn(draw *rand.Rand) api.RR {
	return api.RR{
		Name:  []string{"\x00", "\x01a\x00", "\x01A\x00", "\x01b\x00", "\x01a\x01B\x00", "\x01A\x01b\x00", "a"}[draw.Intn(7)],
		Type:  []int{api.NS, api.CNAME, 99, api.OPT}[draw.Intn(4)],
		Class: draw.Intn(2),
		TTL:   draw.Intn(20) - 1,
		Data:  []string{"\x00", "\x01a\x00", "\x01A\x00", "\x01b\x00", "\x01B\x00", "z"}[draw.Intn(6)],
	}
}

// P10.1, P10.2: lists that are drawn; the sets may be, the list is left as it is, and the same again is told the same.
func TestFromDrawn(t *testing.T) {
	draw := rand.New(rand.NewSource(10))
	for range 3000 {
		l := make([]api.RR, draw.Intn(40))
		for i := range l {
			l[i] = drawn(draw)
		}
		before := slices.Clone(l)
		got := From(l)
		sameAll(t, "From", got, slowFrom(l))
		if !slices.Equal(l, before) {
			t.Fatalf("From changed %q", fmt.Sprint(before))
		}
		for _, s := range got {
			if !Check(s) {
				t.Fatalf("From told %q", fmt.Sprint(s))
			}
		}
		sameAll(t, "again", From(l), got)
	}
}

// P10.2: lists that are as long as the bytes of many messages.
func TestFromMany(t *testing.T) {
	const count = 100000
	var l []api.RR
	for i := range count {
		l = append(l, rr("\x01a\x00", 99, i+1, strconv.Itoa(i)), rr("\x06"+fmt.Sprintf("%06d", i)+"\x00", 99, 1, ""))
	}
	got := From(append(l, l...))
	if len(got) != count+1 || len(got[0].Datas) != count || got[0].TTL != 1 || got[count].Key.Name != "\x06099999\x00" || !Check(got[0]) {
		t.Errorf("From told %d sets", len(got))
	}
	if f := Flat(got[0], 5, count-1); len(f) != count || f[0].Data != "99999" || f[1].Data != "0" {
		t.Errorf("Flat told %d records", len(f))
	}
}

// R5: no list of an answer is shared with another one.
func TestFromIsNew(t *testing.T) {
	l := []api.RR{rr("\x01a\x00", 99, 1, "x"), rr("\x01b\x00", 99, 1, "x"), rr("\x01a\x00", 99, 1, "y"), rr("\x01b\x00", 99, 1, "y")}
	got, other := From(l), From(l)
	got[0].Datas[0] = "changed"
	_ = append(got[0].Datas[:1], "changed", "changed")
	got[1].Key.Name = "changed"
	want := []string{"x", "y"}
	if !slices.Equal(got[1].Datas, want) || !slices.Equal(other[0].Datas, want) || !slices.Equal(other[1].Datas, want) || other[1].Key.Name != "\x01b\x00" {
		t.Errorf("changed, too: %q, %q", fmt.Sprint(got), fmt.Sprint(other))
	}
}

// P10.3: each turn of each set that may be, and times at their edges.
func TestFlat(t *testing.T) {
	for _, s := range good() {
		count := len(s.Datas)
		for _, turn := range []int{0, 1, 2, 3, 4, 5, 6, 7, 11, 12, 1 << 40, math.MaxInt - 1, math.MaxInt} {
			for _, ttl := range []int{0, 1, 604800, 1<<31 - 1} {
				first := turn % count
				var want []api.RR
				for _, d := range append(slices.Clone(s.Datas[first:]), s.Datas[:first]...) {
					want = append(want, api.RR{Name: s.Key.Name, Type: s.Key.Type, Class: s.Key.Class, TTL: ttl, Data: d})
				}
				if got := Flat(s, ttl, turn); !slices.Equal(got, want) {
					t.Errorf("Flat(%.200q, %d, %d) = %.200q", fmt.Sprint(s), ttl, turn, fmt.Sprint(got))
				}
			}
		}
	}
}

// P10.3
func TestFlatNothing(t *testing.T) {
	nothing := func(s api.Set, ttl int, turn int) {
		t.Helper()
		if got := Flat(s, ttl, turn); got != nil {
			t.Errorf("Flat(%.200q, %d, %d) = %.200q", fmt.Sprint(s), ttl, turn, fmt.Sprint(got))
		}
	}
	for _, s := range bad() {
		nothing(s, 0, 0)
		nothing(s, 5, 1)
		nothing(s, -1, -1)
	}
	for _, s := range good() {
		for _, ttl := range []int{math.MinInt, -1, 1 << 31, 1 << 32, math.MaxInt} {
			nothing(s, ttl, 0)
		}
		for _, turn := range []int{math.MinInt, math.MinInt + 1, -3, -1} {
			nothing(s, 5, turn)
		}
	}
}

// R5: the records are the caller's own, the set's data are left in their order.
func TestFlatIsNew(t *testing.T) {
	s := set("\x01a\x00", api.A, 5, "1111", "2222", "3333")
	Flat(s, 5, 2)[0].Data = "changed"
	if !slices.Equal(s.Datas, []string{"1111", "2222", "3333"}) {
		t.Errorf("the set is %q now", s.Datas)
	}
	if got := Flat(s, 5, 2)[0].Data; got != "3333" {
		t.Errorf("told again: %q", got)
	}
}

// P10.4: any two of many, that may be or not; fmt writes a nil list as an empty one.
func TestSame(t *testing.T) {
	all := append(good(), bad()...)
	var texts []string
	for _, s := range all {
		texts = append(texts, fmt.Sprint(s))
	}
	for i, a := range all {
		for k, b := range all {
			if got := Same(a, b); got != (texts[i] == texts[k]) {
				t.Errorf("Same(%.200q, %.200q) = %v", fmt.Sprint(a), fmt.Sprint(b), got)
			}
		}
	}
}

// P10.4: one thing alone is another.
func TestSameIsExact(t *testing.T) {
	for i, change := range []func(s *api.Set){
		func(s *api.Set) { s.Key.Name = "\x01A\x00" },
		func(s *api.Set) { s.Key.Type = 98 },
		func(s *api.Set) { s.Key.Class = 2 },
		func(s *api.Set) { s.TTL = 6 },
		func(s *api.Set) { s.Datas = []string{"y", "x"} },
		func(s *api.Set) { s.Datas = []string{"x"} },
		func(s *api.Set) { s.Datas = []string{"x", "y", "y"} },
		func(s *api.Set) { s.Datas = []string{"x", "Y"} },
		func(s *api.Set) { s.Datas = nil },
	} {
		a, b := set("\x01a\x00", 99, 5, "x", "y"), set("\x01a\x00", 99, 5, "x", "y")
		if !Same(a, b) {
			t.Fatal("Same of the same is false")
		}
		change(&b)
		if Same(a, b) || Same(b, a) {
			t.Errorf("case %d: Same", i)
		}
	}
	if !Same(api.Set{}, api.Set{Datas: []string{}}) {
		t.Error("a nil list is not the same as an empty one")
	}
}

// P10.5: records of a set are one set again, from the one on whose turn it is. (Those of type OPT are left out.)
func TestFlatIsOneSetAgain(t *testing.T) {
	for _, s := range good() {
		if s.Key.Type == api.OPT {
			continue
		}
		for turn := range 5 {
			for _, ttl := range []int{0, 5, 1<<31 - 1} {
				first := turn % len(s.Datas)
				want := api.Set{Key: s.Key, Datas: append(slices.Clone(s.Datas[first:]), s.Datas[:first]...), TTL: ttl}
				sameAll(t, "From of Flat", From(Flat(s, ttl, turn)), []api.Set{want})
			}
		}
	}
}

func ExampleFlat() {
	s := api.Set{Key: api.Question{Name: "\x01a\x00", Type: api.A, Class: 1}, Datas: []string{"1111", "2222", "3333"}, TTL: 9}
	for _, r := range Flat(s, 9, 4) {
		fmt.Println(r.Data)
	}
	// Output:
	// 2222
	// 3333
	// 1111
}
