package msg

import (
	"fmt"
	"math"
	"math/rand"
	"slices"
	"strings"
	"testing"

	"wellspring/api"
	"wellspring/name"
)

var (
	x63 = strings.Repeat("x", 63)
	// most is a name of 255 bytes, as many as a name may have.
	most = strings.Repeat("\x3f"+x63, 3) + "\x3d" + strings.Repeat("Y", 61) + "\x00"
	s20  = strings.Repeat("S", 20)
)

// numbers lays numbers out in two bytes each.
func numbers(all ...int) string {
	s := ""
	for _, n := range all {
		s += string([]byte{byte(n >> 8), byte(n)})
	}
	return s
}

// tail is what stands behind a record's name: its numbers, unchecked, and its data.
func tail(kind, class, ttl int, d string) string {
	return numbers(kind, class, ttl>>16, ttl, len(d)) + d
}

// show tells a message for people, cut where it is long.
func show(m api.Msg) string { return fmt.Sprintf("%.400q", fmt.Sprintf("%+v", m)) }

// full is a message with something of another size in each list.
func full() api.Msg {
	return api.Msg{
		ID:   258,
		Bits: 0x8180,
		Qs:   []api.Question{{Name: "\x01A\x01b\x00", Type: api.A, Class: 1}},
		An: []api.RR{
			{Name: "\x01a\x01B\x00", Type: api.A, Class: 1, TTL: 9, Data: "abcd"},
			{Name: "\x01a\x01B\x00", Type: api.TXT, Class: 1, TTL: 0x01020304, Data: "\x00\x01t"},
		},
		Ns: []api.RR{
			{Name: "\x01B\x00", Type: api.NS, Class: 1, TTL: 1, Data: "\x02Ns\x01b\x00"},
			{Name: "\x00", Type: api.NS, Class: 1, TTL: 1, Data: "\x01a\x01b\x00"},
			{Name: "\x01b\x00", Type: api.SOA, Class: 772, TTL: 1<<31 - 1, Data: "\x01A\x00\x01b\x00" + s20},
		},
		Ar: []api.RR{{Name: "\x00", Type: api.OPT, Class: 1232}},
	}
}

// fullBytes are the bytes of full, with its pointers.
func fullBytes() string {
	return numbers(258, 0x8180, 1, 2, 3, 1) +
		"\x01A\x01b\x00" + numbers(1, 1) +
		"\xc0\x0c" + tail(1, 1, 9, "abcd") +
		"\xc0\x0c" + tail(16, 1, 0x01020304, "\x00\x01t") +
		"\xc0\x0e" + tail(2, 1, 1, "\x02Ns\x01b\x00") +
		"\x00" + tail(2, 1, 1, "\x01a\x01b\x00") +
		"\xc0\x0e" + tail(6, 772, 1<<31-1, "\x01A\x00\x01b\x00"+s20) +
		"\x00" + tail(41, 1232, 0, "")
}

// good are messages that may be, and are short enough.
func good() []api.Msg {
	q := api.Question{Name: "\x03wWw\x01A\x01b\x00", Type: 65535, Class: 65535}
	r := api.RR{Name: "\x03www\x01a\x01B\x00", Type: api.A, Class: 1, TTL: 5, Data: "abcd"}
	other := api.RR{Name: most, Type: api.CNAME, Class: 0, TTL: 0, Data: most}
	return []api.Msg{
		{},
		{ID: 65535},
		{Bits: 65535},
		full(),
		{Qs: []api.Question{{Name: "\x00"}}},
		{Qs: []api.Question{q}},
		{Qs: []api.Question{{Name: most, Type: 1, Class: 1}}, An: []api.RR{other, other}},
		{Qs: []api.Question{q, q, {Name: "\x01z\x00"}}, Ar: []api.RR{r}},
		{Qs: []api.Question{{Name: "\x01z\x00"}, q}, An: []api.RR{r}, Ar: []api.RR{{Name: "\x01Z\x00", Type: 99, Data: "\xc0\x0c"}}},
		{An: []api.RR{r, r}},
		{Ns: []api.RR{r}},
		{Ar: []api.RR{r, other, r}},
		{An: []api.RR{r}, Ar: []api.RR{{Name: "\x00"}}},
		{Bits: 1, Qs: []api.Question{}, An: []api.RR{}, Ns: []api.RR{}, Ar: []api.RR{}},
	}
}

// bad are messages each of which is out of one bound alone.
func bad() []api.Msg {
	all := []api.Msg{}
	add := func(change func(m *api.Msg)) {
		m := full()
		change(&m)
		all = append(all, m)
	}
	for _, n := range []int{math.MinInt, -1, 65536, math.MaxInt} {
		add(func(m *api.Msg) { m.ID = n })
		add(func(m *api.Msg) { m.Bits = n })
		add(func(m *api.Msg) { m.Qs[0].Type = n })
		add(func(m *api.Msg) { m.Qs[0].Class = n })
	}
	for _, n := range []string{"", "a", "\x01a", "\x00\x00", "\xc0\x00", "\x40" + x63 + "x\x00", "\x01a" + most} {
		add(func(m *api.Msg) { m.Qs[0].Name = n })
		// The last one counts like the first.
		add(func(m *api.Msg) { m.Qs = append(m.Qs, api.Question{Name: n}) })
	}
	for _, r := range []api.RR{
		{},
		{Name: "a"},
		{Name: "\x00", Type: -1},
		{Name: "\x00", Type: 65536},
		{Name: "\x00", Class: 65536},
		{Name: "\x00", TTL: -1},
		{Name: "\x00", TTL: 1 << 31},
		{Name: "\x00", Type: api.A, Data: "abc"},
		{Name: "\x00", Type: api.NS, Data: "\xc0\x0c"},
		{Name: "\x00", Type: 99, Data: strings.Repeat("x", 65536)},
	} {
		add(func(m *api.Msg) { m.An = append(m.An, r) })
		add(func(m *api.Msg) { m.Ns = append(m.Ns, r) })
		add(func(m *api.Msg) { m.Ar = append(m.Ar, r) })
		add(func(m *api.Msg) { m.An[0] = r })
	}
	return all
}

// many has count of the same in one list.
func many(list int, count int) api.Msg {
	records := slices.Repeat([]api.RR{{Name: "\x00"}}, count)
	switch list {
	case 0:
		return api.Msg{Qs: slices.Repeat([]api.Question{{Name: "\x00"}}, count)}
	case 1:
		return api.Msg{An: records}
	case 2:
		return api.Msg{Ns: records}
	}
	return api.Msg{Ar: records}
}

// P8.1
func TestCheck(t *testing.T) {
	for _, m := range good() {
		if !Check(m) {
			t.Errorf("Check(%s) = false", show(m))
		}
	}
	for _, m := range bad() {
		if Check(m) {
			t.Errorf("Check(%s) = true", show(m))
		}
	}
}

// P8.1: at most 65535 of each. P8.3: more may not be; as many may be, and are too long.
func TestCheckCounts(t *testing.T) {
	for list := range 4 {
		for _, c := range []struct {
			count int
			is    bool
			e     api.Errno
		}{{65535, true, api.ErrLong}, {65536, false, api.ErrArg}} {
			m := many(list, c.count)
			if Check(m) != c.is {
				t.Errorf("Check of %d in list %d: %v", c.count, list, !c.is)
			}
			if s, e := Encode(m); s != "" || e != c.e {
				t.Errorf("Encode of %d in list %d: %d bytes, %d", c.count, list, len(s), e)
			}
		}
	}
}

// P8.1
func TestSame(t *testing.T) {
	all := append(good(), bad()...)
	for i, a := range all {
		for k, b := range all {
			if want := fmt.Sprint(a) == fmt.Sprint(b); Same(a, b) != want {
				t.Errorf("Same of messages %d and %d: %v", i, k, !want)
			}
		}
	}
	empty := api.Msg{Qs: []api.Question{}, An: []api.RR{}, Ns: []api.RR{}, Ar: []api.RR{}}
	if !Same(empty, api.Msg{}) || !Same(api.Msg{}, empty) {
		t.Error("nil lists are not as empty ones")
	}
}

// P8.1: any field that is another one makes another message.
func TestNotSame(t *testing.T) {
	for i, change := range []func(m *api.Msg){
		func(m *api.Msg) { m.ID++ },
		func(m *api.Msg) { m.Bits++ },
		func(m *api.Msg) { m.Qs[0].Name = "\x01a\x01b\x00" },
		func(m *api.Msg) { m.Qs[0].Type++ },
		func(m *api.Msg) { m.Qs[0].Class++ },
		func(m *api.Msg) { m.Qs = nil },
		func(m *api.Msg) { m.Qs = append(m.Qs, m.Qs[0]) },
		func(m *api.Msg) { m.An[1].Name = "\x01a\x01b\x00" },
		func(m *api.Msg) { m.An[0].Type++ },
		func(m *api.Msg) { m.An[0].Class++ },
		func(m *api.Msg) { m.An[0].TTL++ },
		func(m *api.Msg) { m.An[0].Data = "abcD" },
		func(m *api.Msg) { m.An[0], m.An[1] = m.An[1], m.An[0] },
		func(m *api.Msg) { m.An = m.An[:1] },
		func(m *api.Msg) { m.Ns[2].TTL-- },
		func(m *api.Msg) { m.Ns = nil },
		func(m *api.Msg) { m.Ar[0].Class++ },
		func(m *api.Msg) { m.Ar = append(m.Ar, m.Ar[0]) },
		func(m *api.Msg) { m.Ns, m.Ar = m.Ar, m.Ns },
		func(m *api.Msg) { m.An, m.Ns = m.Ns, m.An },
	} {
		m := full()
		change(&m)
		if Same(m, full()) || Same(full(), m) {
			t.Errorf("change %d: the same", i)
		}
	}
}

// P8.1
func TestHead(t *testing.T) {
	s := "\x01\x02\x03\x04\xff\xff\xff\xff\xff\xff\xff\xff\x40"
	for size := range len(s) + 1 {
		id, bits, is := Head(s[:size])
		wantID, wantBits := 0, 0
		if size >= 12 {
			wantID, wantBits = 0x0102, 0x0304
		}
		if id != wantID || bits != wantBits || is != (size >= 12) {
			t.Errorf("Head of %d bytes: %d, %d, %v", size, id, bits, is)
		}
	}
	long := "\xff\xfe\x80\x00" + strings.Repeat("\x00", 70000)
	if id, bits, is := Head(long); id != 0xfffe || bits != 0x8000 || !is {
		t.Errorf("Head of a long text: %d, %d, %v", id, bits, is)
	}
}

type decoding struct {
	s    string
	want api.Msg
	e    api.Errno
}

func check(t *testing.T, cases []decoding) {
	t.Helper()
	for i, c := range cases {
		if m, e := Decode(c.s); !Same(m, c.want) || e != c.e {
			t.Errorf("case %d: Decode(%.200q) = %s, %d, want %s, %d", i, c.s, show(m), e, show(c.want), c.e)
		}
	}
}

// P8.2
func TestDecode(t *testing.T) {
	m := full()
	m.An[0].Name, m.An[1].Name = "\x01A\x01b\x00", "\x01A\x01b\x00"
	m.Ns[0].Name = "\x01b\x00"
	rr := func(n string) api.RR { return api.RR{Name: n, Type: 99, Class: 1, TTL: 5, Data: "z"} }
	rest := tail(99, 1, 5, "z")
	check(t, []decoding{
		{strings.Repeat("\x00", 12), api.Msg{}, api.OK},
		{numbers(65535, 65534, 0, 0, 0, 0), api.Msg{ID: 65535, Bits: 65534}, api.OK},
		{fullBytes(), m, api.OK},
		{numbers(0, 0, 0, 1, 0, 0) + "\x01a\x00" + rest, api.Msg{An: []api.RR{rr("\x01a\x00")}}, api.OK},
		{numbers(0, 0, 0, 0, 1, 0) + "\x01a\x00" + rest, api.Msg{Ns: []api.RR{rr("\x01a\x00")}}, api.OK},
		{numbers(0, 0, 0, 0, 0, 1) + "\x01a\x00" + rest, api.Msg{Ar: []api.RR{rr("\x01a\x00")}}, api.OK},
		// A question's name by a pointer, into the question ahead of it, and into the head.
		{numbers(0, 0, 2, 0, 0, 0) + "\x01a\x01B\x00" + numbers(1, 2) + "\x01c\xc0\x0e" + numbers(3, 4),
			api.Msg{Qs: []api.Question{{Name: "\x01a\x01B\x00", Type: 1, Class: 2}, {Name: "\x01c\x01B\x00", Type: 3, Class: 4}}}, api.OK},
		{"\x01x\x00\x00" + numbers(1, 0, 0, 0) + "\xc0\x00" + numbers(258, 772),
			api.Msg{ID: 0x0178, Qs: []api.Question{{Name: "\x01x\x00", Type: 258, Class: 772}}}, api.OK},
		// A record's name by a pointer into another record's data.
		{numbers(0, 0, 0, 1, 1, 0) + "\x00" + tail(api.NS, 1, 5, "\x01N\x00") + "\xc0\x17" + rest,
			api.Msg{An: []api.RR{{Name: "\x00", Type: api.NS, Class: 1, TTL: 5, Data: "\x01N\x00"}}, Ns: []api.RR{rr("\x01N\x00")}}, api.OK},
		// A pointer in the data, and a time of 2^31.
		{numbers(0, 0, 1, 1, 0, 0) + "\x01a\x00" + numbers(1, 1) + "\xc0\x0c" + tail(api.MX, 1, 1<<31, "\x00\x0a\x01m\xc0\x0c"),
			api.Msg{Qs: []api.Question{{Name: "\x01a\x00", Type: 1, Class: 1}}, An: []api.RR{{Name: "\x01a\x00", Type: api.MX, Class: 1, Data: "\x00\x0a\x01m\x01a\x00"}}}, api.OK},
		{numbers(0, 0, 0, 1, 0, 0) + "\x00" + tail(99, 0, 0, strings.Repeat("x", 65512)),
			api.Msg{An: []api.RR{{Name: "\x00", Type: 99, Data: strings.Repeat("x", 65512)}}}, api.OK},
	})
}

// P8.2: what is wrong with the whole, ahead of all else and behind all else.
func TestDecodeFaultsOfTheWhole(t *testing.T) {
	check(t, []decoding{
		{"", api.Msg{}, api.ErrCut},
		{strings.Repeat("\xff", 11), api.Msg{}, api.ErrCut},
		{strings.Repeat("\xff", 65536), api.Msg{}, api.ErrLong},
		{strings.Repeat("\x00", 65536), api.Msg{}, api.ErrLong},
		{fullBytes() + strings.Repeat("\x00", 65536), api.Msg{}, api.ErrLong},
		{numbers(0, 0, 0, 1, 0, 0) + "\x00" + tail(99, 0, 0, strings.Repeat("x", 65513)), api.Msg{}, api.ErrLong},
		{strings.Repeat("\x00", 65535), api.Msg{}, api.ErrLeft},
		{strings.Repeat("\x00", 13), api.Msg{}, api.ErrLeft},
		{fullBytes() + "\x00", api.Msg{}, api.ErrLeft},
		{fullBytes() + fullBytes(), api.Msg{}, api.ErrLeft},
		{strings.Repeat("\x00", 12) + "\x40", api.Msg{}, api.ErrLeft},
	})
}

// P8.2: questions, one by one.
func TestDecodeFaultsOfQuestions(t *testing.T) {
	one, two := numbers(0, 0, 1, 0, 0, 0), numbers(0, 0, 2, 1, 0, 0)
	ok := "\x01a\x00" + numbers(1, 1)
	check(t, []decoding{
		{one, api.Msg{}, api.ErrCut},
		{one + "\x01", api.Msg{}, api.ErrCut},
		{one + "\x01a", api.Msg{}, api.ErrCut},
		{one + "\x01a\x00", api.Msg{}, api.ErrCut},
		{one + "\x01a\x00\x00", api.Msg{}, api.ErrCut},
		{one + "\x01a\x00\x00\x01", api.Msg{}, api.ErrCut},
		{one + "\x01a\x00\x00\x01\x00", api.Msg{}, api.ErrCut},
		{one + "\xc0", api.Msg{}, api.ErrCut},
		{one + "\x40", api.Msg{}, api.ErrName},
		{one + "\xbf", api.Msg{}, api.ErrName},
		{one + "\xc0\x0c", api.Msg{}, api.ErrName},
		{one + "\xc0\x0c" + numbers(1, 1), api.Msg{}, api.ErrName},
		{one + "\x01a" + most + numbers(1, 1), api.Msg{}, api.ErrName},
		{two + ok, api.Msg{}, api.ErrCut},
		{two + ok + "\x41", api.Msg{}, api.ErrName},
		{two + ok + "\x00\x00\x01", api.Msg{}, api.ErrCut},
		// The first question's fault is told, not the second one's.
		{two + "\x40" + numbers(1, 1), api.Msg{}, api.ErrName},
		{two + ok + ok, api.Msg{}, api.ErrCut},
		{numbers(0, 0, 65535, 65535, 65535, 65535), api.Msg{}, api.ErrCut},
		{numbers(0, 0, 65535, 0, 0, 0) + strings.Repeat("\x00", 65523), api.Msg{}, api.ErrCut},
	})
}

// P8.2: records, one by one, in whichever list they stand; what is left is told last.
func TestDecodeFaultsOfRecords(t *testing.T) {
	faults := []struct {
		s string
		e api.Errno
	}{
		{"\x40" + tail(99, 1, 0, ""), api.ErrName},
		{"\xff\xff" + tail(99, 1, 0, ""), api.ErrName},
		{"\x00" + tail(api.A, 1, 0, "abc"), api.ErrData},
		{"\x00" + tail(api.NS, 1, 0, "\x40"), api.ErrData},
		{"\x00" + tail(api.TXT, 1, 0, ""), api.ErrData},
	}
	ok := "\x00" + tail(99, 1, 0, "z")
	for list := 3; list < 6; list++ {
		for _, f := range faults {
			counts := []int{0, 0, 0, 0, 0, 0}
			counts[list] = 1
			check(t, []decoding{{numbers(counts...) + f.s, api.Msg{}, f.e}, {numbers(counts...) + f.s + "zz", api.Msg{}, f.e}})
			counts[list] = 2
			check(t, []decoding{{numbers(counts...) + ok + f.s, api.Msg{}, f.e}})
			for _, g := range faults {
				check(t, []decoding{{numbers(counts...) + f.s + g.s, api.Msg{}, f.e}})
			}
			// The fault of this list is told, not that of a list behind it, which is not there.
			if list < 5 {
				counts[list+1] = 9
				check(t, []decoding{{numbers(counts...) + ok + f.s, api.Msg{}, f.e}})
			}
		}
		counts := []int{0, 0, 0, 0, 0, 0}
		counts[list] = 65535
		check(t, []decoding{{numbers(counts...) + ok, api.Msg{}, api.ErrCut}})
	}
	check(t, []decoding{
		{numbers(0, 0, 1, 1, 0, 0) + "\xc0\xff" + numbers(1, 1) + "\x00" + tail(api.A, 1, 0, "abc"), api.Msg{}, api.ErrName},
		{numbers(0, 0, 0, 1, 1, 1) + "\x00" + tail(api.A, 1, 0, "abc") + "\x40", api.Msg{}, api.ErrData},
		{numbers(0, 0, 0, 1, 0, 0) + "\x00" + tail(api.A, 1, 0, "abcd")[:13], api.Msg{}, api.ErrCut},
	})
}

// P8.2: cut at each byte, no message is decoded, and all that is told is ErrCut; with a byte more, ErrLeft.
func TestDecodeCutAnywhere(t *testing.T) {
	for _, m := range good() {
		s, e := Encode(m)
		if e != api.OK {
			t.Fatalf("Encode(%s): %d", show(m), e)
		}
		for size := range len(s) {
			check(t, []decoding{{s[:size], api.Msg{}, api.ErrCut}})
		}
		check(t, []decoding{{s + "\x00", api.Msg{}, api.ErrLeft}})
	}
}

// P8.3
func TestEncode(t *testing.T) {
	q := api.Question{Name: "\x01a\x01b\x00", Type: 258, Class: 772}
	z := api.Question{Name: "\x01z\x00", Type: 1, Class: 1}
	r := api.RR{Name: "\x01x\x01B\x00", Type: 99, Class: 1, TTL: 5, Data: "\x01b\x00"}
	laid := "\x01a\x01b\x00" + numbers(258, 772)
	rest := tail(99, 1, 5, "\x01b\x00")
	for i, c := range []struct {
		m    api.Msg
		want string
	}{
		{api.Msg{}, strings.Repeat("\x00", 12)},
		{api.Msg{ID: 0xfedc, Bits: 0xba98}, numbers(0xfedc, 0xba98, 0, 0, 0, 0)},
		{full(), fullBytes()},
		{api.Msg{Qs: []api.Question{q}}, numbers(0, 0, 1, 0, 0, 0) + laid},
		// All questions are whole, and records lean on the first one alone.
		{api.Msg{Qs: []api.Question{q, q}, Ar: []api.RR{r}}, numbers(0, 0, 2, 0, 0, 1) + laid + laid + "\x01x\xc0\x0e" + rest},
		{api.Msg{Qs: []api.Question{z, q}, Ns: []api.RR{r}}, numbers(0, 0, 2, 0, 1, 0) + "\x01z\x00" + numbers(1, 1) + laid + "\x01x\x01B\x00" + rest},
		{api.Msg{Qs: []api.Question{{Name: "\x00"}}, An: []api.RR{r}}, numbers(0, 0, 1, 1, 0, 0) + "\x00" + numbers(0, 0) + "\x01x\x01B\x00" + rest},
		// Without a question all names are whole, also those that stand there again.
		{api.Msg{An: []api.RR{r, r}, Ar: []api.RR{r}}, numbers(0, 0, 0, 2, 0, 1) + strings.Repeat("\x01x\x01B\x00"+rest, 3)},
		// No name in data is a pointer.
		{api.Msg{Qs: []api.Question{q}, An: []api.RR{{Name: "\x01b\x00", Type: api.NS, Data: "\x01a\x01b\x00"}}},
			numbers(0, 0, 1, 1, 0, 0) + laid + "\xc0\x0e" + tail(api.NS, 0, 0, "\x01a\x01b\x00")},
	} {
		if s, e := Encode(c.m); s != c.want || e != api.OK {
			t.Errorf("case %d: Encode = %q, %d, want %q", i, s, e, c.want)
		}
	}
}

// P8.3: each list is counted by its own number.
func TestEncodeCounts(t *testing.T) {
	for list := range 4 {
		for _, count := range []int{1, 2, 255, 256, 300} {
			s, e := Encode(many(list, count))
			want := []int{0, 0, 0, 0, 0, 0}
			want[2+list] = count
			if e != api.OK || s[:12] != numbers(want...) {
				t.Errorf("Encode of %d in list %d: %.12q, %d", count, list, s, e)
			}
			check(t, []decoding{{s, many(list, count), api.OK}})
		}
	}
}

// P8.3: what may not be is told ahead of what is too long.
func TestEncodeNothing(t *testing.T) {
	long := slices.Repeat([]api.RR{{Name: "\x00", Type: 99, Data: strings.Repeat("x", 65535)}}, 3)
	for _, m := range bad() {
		if s, e := Encode(m); s != "" || e != api.ErrArg {
			t.Errorf("Encode(%s) = %.80q, %d", show(m), s, e)
		}
		m.An = append(slices.Clone(long), m.An...)
		if s, e := Encode(m); s != "" || e != api.ErrArg {
			t.Errorf("Encode of a long message: %.80q, %d", s, e)
		}
	}
}

// edge holds Encode of a message that is over by so many bytes against what is to be told.
func edge(t *testing.T, m api.Msg, over int) {
	t.Helper()
	size, want := 65535, api.OK
	if over > 0 {
		size, want = 0, api.ErrLong
	}
	if s, e := Encode(m); len(s) != size || e != want {
		t.Errorf("%d over: %d bytes, %d", over, len(s), e)
	}
}

// P8.3: 65535 bytes are not too many, one more is; in whichever list they stand.
func TestEncodeLong(t *testing.T) {
	q := []api.Question{{Name: "\x01a\x00"}}
	roots := slices.Repeat([]api.Question{{Name: "\x00"}}, 5000)
	// fill takes so many bytes, as its name is a pointer to q's.
	fill := func(size int) api.RR {
		return api.RR{Name: "\x01A\x00", Type: 99, Data: strings.Repeat("x", size-12)}
	}
	for over := range 3 {
		// Twelve bytes are the head's, seven q's.
		left := 65535 - 12 - 7 + over
		for _, m := range []api.Msg{
			{Qs: q, An: []api.RR{fill(left)}},
			{Qs: q, Ns: []api.RR{fill(left)}},
			{Qs: q, Ar: []api.RR{fill(left)}},
			{Qs: q, An: []api.RR{fill(20000)}, Ns: []api.RR{fill(20000)}, Ar: []api.RR{fill(left - 40000)}},
			{Qs: q, An: []api.RR{fill(12), fill(left - 24), fill(12)}},
			{Qs: slices.Concat(q, roots), An: []api.RR{fill(left - 5*5000)}},
		} {
			edge(t, m, over)
			m.Ar = append(m.Ar, fill(65535+12), fill(65535+12))
			edge(t, m, 65535)
		}
	}
}

// P8.3: 65535 bytes of questions alone, and more.
func TestEncodeLongQuestions(t *testing.T) {
	for over := range 3 {
		// 65523 bytes behind the head: 13103 questions of five, and one of eight.
		label := strings.Repeat("a", 2+over)
		last := api.Question{Name: string([]byte{byte(len(label))}) + label + "\x00"}
		edge(t, api.Msg{Qs: append(slices.Repeat([]api.Question{{Name: "\x00"}}, 13103), last)}, over)
	}
}

// R5
func TestWhatIsHandedInStays(t *testing.T) {
	for _, m := range append(good(), bad()...) {
		was := fmt.Sprint(m)
		other := full()
		Check(m)
		Encode(m)
		Same(m, other)
		Same(other, m)
		if fmt.Sprint(m) != was || fmt.Sprint(other) != fmt.Sprint(full()) {
			t.Errorf("%.200q became %s", was, show(m))
		}
	}
}

// R5: the lists of one answer share nothing.
func TestListsAreApart(t *testing.T) {
	first, _ := Decode(fullBytes())
	second, _ := Decode(fullBytes())
	third, _ := Decode(fullBytes())
	first.Ns[0].TTL = 99
	first.An = append(first.An, api.RR{})
	first.Ns = append(first.Ns, api.RR{})
	first.Ar[0].TTL = 98
	first.Qs[0].Type = 97
	if first.Ns[0].TTL != 99 || first.Ar[0].TTL != 98 || first.An[1] != third.An[1] || first.Ns[1] != third.Ns[1] || !Same(second, third) {
		t.Error("a list changed with another one")
	}
}

// relettered tells n with the letters of base, where the longest end of n that base has, too, begins.
func relettered(base string, n string) string {
	for end := n; end != "\x00"; end = end[1+int(end[0]):] {
		for other := base; other != "\x00"; other = other[1+int(other[0]):] {
			if name.Same(end, other) {
				return n[:len(n)-len(end)] + other
			}
		}
	}
	return n
}

// again tells what becomes of m when it is encoded, and decoded.
func again(m api.Msg) api.Msg {
	base := "\x00"
	if len(m.Qs) > 0 {
		base = m.Qs[0].Name
	}
	for _, list := range []*[]api.RR{&m.An, &m.Ns, &m.Ar} {
		*list = slices.Clone(*list)
		for i := range *list {
			(*list)[i].Name = relettered(base, (*list)[i].Name)
		}
	}
	return m
}

func comesBack(t *testing.T, m api.Msg) {
	t.Helper()
	s, e := Encode(m)
	if e != api.OK {
		t.Fatalf("Encode(%s): %d", show(m), e)
	}
	check(t, []decoding{{s, again(m), api.OK}})
	// It has the question's letters by now: from here on nothing changes.
	if next, e := Encode(again(m)); next != s || e != api.OK {
		t.Errorf("Encode of it again: %.200q, %d, want %.200q", next, e, s)
	}
}

// drawn tells a message of a few names and shapes, so that ends of names often meet.
func drawn(r *rand.Rand) api.Msg {
	labels := []string{"\x01a", "\x01A", "\x01b", "\x01B", "\x02ab", "\x02\x01a", "\x01\x00", "\x01\xc0"}
	names := func() string {
		s := ""
		for range r.Intn(4) {
			s += labels[r.Intn(len(labels))]
		}
		return s + "\x00"
	}
	records := func() []api.RR {
		var list []api.RR
		for range r.Intn(4) {
			one := api.RR{Name: names(), Class: r.Intn(65536), TTL: r.Intn(1 << 31)}
			switch r.Intn(4) {
			case 0:
				one.Type, one.Data = api.A, "ABcd"
			case 1:
				one.Type, one.Data = api.NS, names()
			case 2:
				one.Type, one.Data = api.SOA, names()+names()+s20
			default:
				one.Type, one.Data = 100+r.Intn(65000), names()
			}
			list = append(list, one)
		}
		return list
	}
	m := api.Msg{ID: r.Intn(65536), Bits: r.Intn(65536)}
	for range r.Intn(3) {
		m.Qs = append(m.Qs, api.Question{Name: names(), Type: r.Intn(65536), Class: r.Intn(65536)})
	}
	m.An, m.Ns, m.Ar = records(), records(), records()
	return m
}

// P8.4: what is encoded is decoded, but for letters of records' names.
func TestEncodedIsDecoded(t *testing.T) {
	for _, m := range good() {
		comesBack(t, m)
	}
	r := rand.New(rand.NewSource(1))
	for range 20000 {
		comesBack(t, drawn(r))
	}
}

// P8.2, P8.4: whatever bytes come, what is decoded may be, and comes back; with an error there is nothing.
func TestAnyBytes(t *testing.T) {
	r := rand.New(rand.NewSource(2))
	told := map[api.Errno]int{}
	for range 50000 {
		s, _ := Encode(drawn(r))
		b := []byte(s)
		for range 1 + r.Intn(3) {
			// Few bytes of the head are spoilt, and pointers are laid often.
			at := r.Intn(len(b))
			switch r.Intn(4) {
			case 0:
				b[at] = byte(r.Intn(256))
			case 1:
				copy(b[at:], []byte{0xc0, byte(r.Intn(len(b)))})
			case 2:
				b = append(b, byte(r.Intn(256)))
			default:
				b[at] ^= 1 << r.Intn(8)
			}
		}
		m, e := Decode(string(b))
		told[e]++
		if e != api.OK {
			if !Same(m, api.Msg{}) {
				t.Fatalf("Decode(%q) = %s, %d", b, show(m), e)
			}
			continue
		}
		if !Check(m) {
			t.Fatalf("Decode(%q) = %s, and it may not be", b, show(m))
		}
		comesBack(t, m)
	}
	for _, e := range []api.Errno{api.OK, api.ErrCut, api.ErrName, api.ErrData, api.ErrLeft} {
		if told[e] == 0 {
			t.Errorf("%d was never told", e)
		}
	}
}

// P8.2: a message of as many bytes as may be, in which each name is a long way of pointers, is read to its end.
func TestDecodeLongWays(t *testing.T) {
	way := "\x00\x00"
	for len(way) < 16000 {
		at := 12 + 11 + len(way)
		way += numbers(0xc000 + at - 2)
	}
	s := "\x00" + tail(99, 1, 0, way)
	count := 1
	for len(s) < 65000 {
		s += numbers(0xc000+12+11+len(way)-2) + tail(api.NS, 1, 0, numbers(0xc000+12+11+len(way)-2))
		count++
	}
	m, e := Decode(numbers(0, 0, 0, count, 0, 0) + s)
	if e != api.OK || len(m.An) != count || m.An[count-1] != (api.RR{Name: "\x00", Type: api.NS, Class: 1, Data: "\x00"}) {
		t.Errorf("%d records, %d", len(m.An), e)
	}
}

func ExampleDecode() {
	m, e := Decode(strings.Repeat("\x00", 12))
	fmt.Println(Same(m, api.Msg{}), e)
	// Output: true 0
}

func ExampleEncode() {
	s, e := Encode(api.Msg{ID: 258, Qs: []api.Question{{Name: "\x01a\x00", Type: api.A, Class: 1}}})
	fmt.Printf("%q %d\n", s, e)
	// Output: "\x01\x02\x00\x00\x00\x01\x00\x00\x00\x00\x00\x00\x01a\x00\x00\x01\x00\x01" 0
}
