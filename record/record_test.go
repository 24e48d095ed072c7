package record

import (
	"fmt"
	"math"
	"slices"
	"strings"
	"testing"

	"wellspring/api"
	"wellspring/name"
)

var (
	x63 = strings.Repeat("x", 63)
	// most is a name of 255 bytes, as many as a name may have.
	most = strings.Repeat("\x3f"+x63, 3) + "\x3d" + strings.Repeat("Y", 61) + "\x00"
	s20  = strings.Repeat("S", 20)
)

// tail is what stands behind a record's name: its numbers, unchecked, and its data.
func tail(kind, class, ttl int, d string) string {
	b := []byte{byte(kind >> 8), byte(kind), byte(class >> 8), byte(class), byte(ttl >> 24), byte(ttl >> 16), byte(ttl >> 8), byte(ttl), byte(len(d) >> 8), byte(len(d))}
	return string(b) + d
}

// good are records that may be, one or more of each shape, at the edges of each number.
func good() []api.RR {
	all := []api.RR{{Name: "\x00"}}
	for _, n := range []string{"\x00", "\x01a\x00", "\x01x\x01A\x01b\x00", "\x02\x00\xc0\x00", most} {
		all = append(all,
			api.RR{Name: n, Type: api.A, Class: 1, TTL: 258, Data: "ABcd"},
			api.RR{Name: n, Type: api.AAAA, Class: 65535, TTL: 0, Data: "ABCDEFGHIJKLMNOP"},
			api.RR{Name: n, Type: api.NS, Class: 0, TTL: 1<<31 - 1, Data: "\x02Ns\x01a\x00"},
			api.RR{Name: n, Type: api.CNAME, Class: 256, TTL: 1 << 24, Data: most},
			api.RR{Name: n, Type: api.PTR, Class: 3, TTL: 65536, Data: "\x00"},
			api.RR{Name: n, Type: api.SOA, Class: 1, TTL: 1, Data: "\x01A\x00\x01b\x00" + s20},
			api.RR{Name: n, Type: api.MX, Class: 1, TTL: 0x01020304, Data: "\xc0\x00\x01M\x00"},
			api.RR{Name: n, Type: api.SRV, Class: 1, TTL: 255, Data: "ABCDEF\x00"},
			api.RR{Name: n, Type: api.TXT, Class: 1, TTL: 256, Data: "\x00\x02tT"},
			api.RR{Name: n, Type: api.OPT, Class: 4096, TTL: 0, Data: ""},
			api.RR{Name: n, Type: 0, Class: 1, TTL: 5, Data: "\xc0\x0c"},
			api.RR{Name: n, Type: 65535, Class: 1, TTL: 5, Data: strings.Repeat("X", 65535)},
			api.RR{Name: n, Type: 258, Class: 772, TTL: 5, Data: strings.Repeat("X", 258)},
		)
	}
	return all
}

// bad are records each of which is out of one bound alone.
func bad() []api.RR {
	ok := api.RR{Name: "\x01a\x00", Type: 99, Class: 1, TTL: 5, Data: "abcd"}
	all := []api.RR{{}}
	add := func(change func(r *api.RR)) {
		r := ok
		change(&r)
		all = append(all, r)
	}
	for _, n := range []string{"", "a", "\x01a", "\x00\x00", "\xc0\x00", "\x01a\xc0\x00", "\x40" + x63 + "x\x00", "\x01a" + most} {
		add(func(r *api.RR) { r.Name = n })
	}
	for _, n := range []int{math.MinInt, -1, 65536, math.MaxInt} {
		add(func(r *api.RR) { r.Type = n })
		add(func(r *api.RR) { r.Class = n })
	}
	for _, n := range []int{math.MinInt, -1, 1 << 31, 1 << 32, math.MaxInt} {
		add(func(r *api.RR) { r.TTL = n })
	}
	for kind, d := range map[int]string{api.A: "abc", api.AAAA: "abcd", api.NS: "\xc0\x00", api.CNAME: "", api.PTR: "\x00\x00", api.SOA: "\x00\x00", api.MX: "\x00", api.SRV: "\x00", api.TXT: "\x02a", api.OPT: strings.Repeat("x", 65536)} {
		add(func(r *api.RR) { r.Type, r.Data = kind, d })
	}
	return all
}

// P6.1
func TestCheck(t *testing.T) {
	for _, r := range good() {
		if !Check(r) {
			t.Errorf("Check(%.200q) = false", fmt.Sprint(r))
		}
	}
	for _, r := range bad() {
		if Check(r) {
			t.Errorf("Check(%.200q) = true", fmt.Sprint(r))
		}
	}
}

type decoding struct {
	msg  string
	at   int
	want api.RR
	next int
	e    api.Errno
}

func check(t *testing.T, cases []decoding) {
	t.Helper()
	for _, c := range cases {
		r, next, e := Decode(c.msg, c.at)
		if r != c.want || next != c.next || e != c.e {
			t.Errorf("Decode(%.200q, %d) = %.200q, %d, %d, want %.200q, %d, %d", c.msg, c.at, fmt.Sprint(r), next, e, fmt.Sprint(c.want), c.next, c.e)
		}
	}
}

// P6.2: names whole and from pointers, in front and in the data.
func TestDecode(t *testing.T) {
	const m = "\x01a\x01B\x00" // the names a.B at 0, B at 2, the root at 4
	check(t, []decoding{
		{"\x00" + tail(99, 1, 0, ""), 0, api.RR{Name: "\x00", Type: 99, Class: 1}, 11, api.OK},
		{"\x00" + tail(0, 0, 0, ""), 0, api.RR{Name: "\x00"}, 11, api.OK},
		{"\x00" + tail(65535, 65534, 0x01020304, "zz") + "z", 0, api.RR{Name: "\x00", Type: 65535, Class: 65534, TTL: 0x01020304, Data: "zz"}, 13, api.OK},
		{"\x00" + tail(258, 772, 5, ""), 0, api.RR{Name: "\x00", Type: 258, Class: 772, TTL: 5}, 11, api.OK},
		{m + "\xc0\x00" + tail(api.A, 1, 5, "abcd"), 5, api.RR{Name: m, Type: api.A, Class: 1, TTL: 5, Data: "abcd"}, 21, api.OK},
		{m + "\x01X\xc0\x02" + tail(api.NS, 1, 5, "\x01n\xc0\x00") + "zz", 5, api.RR{Name: "\x01X\x01B\x00", Type: api.NS, Class: 1, TTL: 5, Data: "\x01n" + m}, 23, api.OK},
		// The data's name goes on in the record's own.
		{m + "\x01X\xc0\x02" + tail(api.MX, 1, 5, "\xc0\x00\xc0\x05"), 5, api.RR{Name: "\x01X\x01B\x00", Type: api.MX, Class: 1, TTL: 5, Data: "\xc0\x00\x01X\x01B\x00"}, 23, api.OK},
		{m + "\xc0\x04" + tail(api.SOA, 1, 5, "\xc0\x00\xc0\x02"+s20), 5, api.RR{Name: "\x00", Type: api.SOA, Class: 1, TTL: 5, Data: m + "\x01B\x00" + s20}, 41, api.OK},
		{"\x00" + tail(99, 1, 0, strings.Repeat("x", 65535)), 0, api.RR{Name: "\x00", Type: 99, Class: 1, Data: strings.Repeat("x", 65535)}, 65546, api.OK},
		{strings.Repeat("z", 70000) + "\x00" + tail(99, 1, 0, "x"), 70000, api.RR{Name: "\x00", Type: 99, Class: 1, Data: "x"}, 70012, api.OK},
	})
}

// P6.2: a time of 2^31 or more counts as 0.
func TestDecodeTimes(t *testing.T) {
	for _, c := range [][2]int{{0, 0}, {1, 1}, {1<<31 - 2, 1<<31 - 2}, {1<<31 - 1, 1<<31 - 1}, {1 << 31, 0}, {1<<31 + 1, 0}, {1<<32 - 1, 0}} {
		for _, kind := range []int{99, api.OPT} {
			check(t, []decoding{{"\x00" + tail(kind, 1, c[0], ""), 0, api.RR{Name: "\x00", Type: kind, Class: 1, TTL: c[1]}, 11, api.OK}})
		}
	}
}

// P6.2: what is wrong first.
func TestDecodeFaults(t *testing.T) {
	check(t, []decoding{
		{"", 0, api.RR{}, 0, api.ErrCut},
		{"", -1, api.RR{}, 0, api.ErrCut},
		{"\x00" + tail(99, 1, 0, ""), -1, api.RR{}, 0, api.ErrCut},
		{"\x00" + tail(99, 1, 0, ""), 11, api.RR{}, 0, api.ErrCut},
		{"\x00" + tail(99, 1, 0, ""), math.MaxInt, api.RR{}, 0, api.ErrCut},
		{"\x00" + tail(99, 1, 0, ""), math.MinInt, api.RR{}, 0, api.ErrCut},
		{"\x40", 0, api.RR{}, 0, api.ErrName},
		{"\xc0\x00" + tail(99, 1, 0, ""), 0, api.RR{}, 0, api.ErrName},
		{"\x01a\xc0\x01" + tail(api.A, 1, 0, "abc"), 0, api.RR{}, 0, api.ErrName},
		{"\x01a" + most + tail(99, 1, 0, ""), 0, api.RR{}, 0, api.ErrName},
		{"\x05a", 0, api.RR{}, 0, api.ErrCut},
		// The name's fault is told, not the one behind it.
		{"\x40\x00\x01", 0, api.RR{}, 0, api.ErrName},
		// The data is not there, and were not of its shape.
		{"\x00" + tail(api.A, 1, 0, "abcde")[:14], 0, api.RR{}, 0, api.ErrCut},
		{"\x00" + tail(api.NS, 1, 0, "\xff\xff")[:11], 0, api.RR{}, 0, api.ErrCut},
		{"\x00" + tail(api.A, 1, 0, "abc"), 0, api.RR{}, 0, api.ErrData},
		{"\x00" + tail(api.A, 1, 0, "abcde"), 0, api.RR{}, 0, api.ErrData},
		{"\x00" + tail(api.NS, 1, 0, "\x40"), 0, api.RR{}, 0, api.ErrData},
		{"\x00" + tail(api.NS, 1, 0, "\x01a"), 0, api.RR{}, 0, api.ErrData},
		{"\x00" + tail(api.NS, 1, 0, "\x01a\x00z"), 0, api.RR{}, 0, api.ErrData},
		{"\x00" + tail(api.NS, 1, 0, "\xc0\x0b"), 0, api.RR{}, 0, api.ErrData},
		{"\x00" + tail(api.NS, 1, 0, ""), 0, api.RR{}, 0, api.ErrData},
		{"\x00" + tail(api.NS, 1, 0, "") + "\x00", 0, api.RR{}, 0, api.ErrData},
		{"\x00" + tail(api.TXT, 1, 0, ""), 0, api.RR{}, 0, api.ErrData},
	})
}

// P6.2: cut at each byte, no record is decoded, and all that is told is ErrCut.
func TestDecodeCutAnywhere(t *testing.T) {
	for _, r := range good() {
		if len(r.Data) > 300 {
			continue
		}
		whole := "zz" + r.Name + tail(r.Type, r.Class, r.TTL, r.Data)
		for size := range len(whole) {
			check(t, []decoding{{whole[:size], 2, api.RR{}, 0, api.ErrCut}})
		}
		check(t, []decoding{{whole, 2, r, len(whole), api.OK}})
	}
}

// P6.3
func TestEncode(t *testing.T) {
	rest := tail(api.A, 1, 258, "abcd")
	for _, c := range []struct {
		base string
		at   int
		name string
		want string
	}{
		{"\x01a\x00", 12, "\x01a\x00", "\xc0\x0c"},
		{"\x01a\x00", 12, "\x01A\x00", "\xc0\x0c"},
		{"\x01a\x00", 12, "\x01X\x01a\x00", "\x01X\xc0\x0c"},
		{"\x01a\x01b\x00", 12, "\x01x\x01B\x00", "\x01x\xc0\x0e"},
		{"\x01a\x01b\x00", 0, "\x01b\x00", "\xc0\x02"},
		{"\x01a\x01b\x00", 16000, "\x01b\x00", "\xfe\x82"},
		{"\x01a\x00", 12, "\x01b\x00", "\x01b\x00"},
		{"\x01a\x00", 12, "\x00", "\x00"},
		{"\x00", 12, "\x01a\x00", "\x01a\x00"},
		{"\x00", 0, "\x00", "\x00"},
		{"\x00", 12, most, most},
		{most, 12, most, "\xc0\x0c"},
	} {
		r := api.RR{Name: c.name, Type: api.A, Class: 1, TTL: 258, Data: "abcd"}
		if got := Encode(c.base, c.at, r); got != c.want+rest {
			t.Errorf("Encode(%q, %d, %q) = %q, want %q", c.base, c.at, c.name, got, c.want+rest)
		}
		if got := TTL(c.base, c.at, r); got != len(c.want)+4 {
			t.Errorf("TTL(%q, %d, %q) = %d, want %d", c.base, c.at, c.name, got, len(c.want)+4)
		}
	}
}

// P6.3: numbers and data are laid as they are, no pointer into the data.
func TestEncodeLaysAllFields(t *testing.T) {
	for _, r := range good() {
		want := r.Name + tail(r.Type, r.Class, r.TTL, r.Data)
		if got := Encode("\x00", 12, r); got != want {
			t.Errorf("Encode(%.200q) = %.200q, want %.200q", fmt.Sprint(r), got, want)
		}
	}
	r := api.RR{Name: "\x01a\x00", Type: api.NS, Class: 1, TTL: 5, Data: "\x01a\x00"}
	if got, want := Encode("\x01a\x00", 12, r), "\xc0\x0c"+tail(api.NS, 1, 5, "\x01a\x00"); got != want {
		t.Errorf("Encode = %q, want %q", got, want)
	}
}

func nothing(t *testing.T, base string, at int, r api.RR) {
	t.Helper()
	if got, where := Encode(base, at, r), TTL(base, at, r); got != "" || where != -1 {
		t.Errorf("Encode, TTL(%q, %d, %.200q) = %.80q, %d", base, at, fmt.Sprint(r), got, where)
	}
}

// P6.3: records that may not be, and bases and places of which comp.Write tells nothing.
func TestEncodeNothing(t *testing.T) {
	for _, r := range bad() {
		nothing(t, "\x01a\x00", 12, r)
		nothing(t, "\x00", 12, r)
	}
	for _, r := range good() {
		for _, base := range []string{"", "a", "\x01a", "\x00\x00", "\xc0\x00", "\x01a" + most} {
			nothing(t, base, 12, r)
		}
		for _, at := range []int{math.MinInt, -1, 16001, math.MaxInt} {
			nothing(t, "\x01a\x00", at, r)
			nothing(t, "\x00", at, r)
		}
	}
}

// P6.3: another time at the place that is told is the record with that time.
func TestTimeStandsWhereItIsTold(t *testing.T) {
	for _, r := range good() {
		for _, base := range []string{"\x00", "\x01a\x00", "\x01A\x01B\x00", most} {
			at := TTL(base, 12, r)
			other := r
			other.TTL = 0x71727374
			b := []byte(Encode(base, 12, r))
			copy(b[at:], "\x71\x72\x73\x74")
			if got := Encode(base, 12, other); got != string(b) {
				t.Errorf("TTL(%q, 12, %.200q) = %d", base, fmt.Sprint(r), at)
			}
		}
	}
}

// P6.4
func TestEncodedIsDecoded(t *testing.T) {
	for _, base := range []string{"\x00", "\x01A\x00", "\x01a\x01B\x00", strings.ToLower(most), most} {
		for _, at := range []int{0, 12, 300, 16000} {
			ahead := strings.Repeat("\xff", at) + base
			for _, r := range good() {
				bytes := Encode(base, at, r)
				for _, behind := range []string{"", "\x00", "\xff\xff"} {
					got, next, e := Decode(ahead+bytes+behind, len(ahead))
					if e != api.OK || next != len(ahead)+len(bytes) || !name.Same(got.Name, r.Name) {
						t.Fatalf("base %q at %d, %.200q: %.200q, %d, %d", base, at, fmt.Sprint(r), fmt.Sprint(got), next, e)
					}
					got.Name = r.Name
					if got != r {
						t.Fatalf("base %q at %d: %.200q, want %.200q", base, at, fmt.Sprint(got), fmt.Sprint(r))
					}
				}
			}
		}
	}
}

// P6.2, P6.4: whatever bytes are decoded make a record that may be, and that is decoded again from its bytes.
func TestDecodedMayBe(t *testing.T) {
	kinds := []int{0, api.A, api.NS, api.SOA, api.MX, api.TXT, api.AAAA, api.SRV, api.OPT, 65535}
	parts := []string{"", "\x00", "\x01a\x00", "\xc0\x00", "\xc0\x02", "\xc0\x05", "AB\xc0\x00", "ABCDEF\x00", "abcd", "\x00\xc0\x00" + s20, strings.Repeat("\x01a", 8)}
	decoded := []int{}
	for _, first := range []string{"\x00", "\xc0\x00", "\x01X\xc0\x02", "\x40", "\xff\xff"} {
		for _, kind := range kinds {
			for _, d := range parts {
				for _, ttl := range []int{0, 1<<31 - 1, 1 << 31} {
					r, next, e := Decode("\x01a\x01B\x00"+first+tail(kind, 1, ttl, d), 5)
					if Check(r) != (e == api.OK) {
						t.Fatalf("first %q, type %d, data %q: %q, %d", first, kind, d, fmt.Sprint(r), e)
					}
					if e != api.OK {
						continue
					}
					decoded = append(decoded, kind)
					if next != 5+len(first)+10+len(d) {
						t.Fatalf("first %q, type %d, data %q: the place behind it is %d", first, kind, d, next)
					}
					bytes := Encode("\x00", 12, r)
					check(t, []decoding{{bytes, 0, r, len(bytes), api.OK}})
				}
			}
		}
	}
	for _, kind := range kinds {
		if !slices.Contains(decoded, kind) {
			t.Errorf("no record of type %d was decoded", kind)
		}
	}
}

func ExampleTTL() {
	fmt.Println(TTL("\x01a\x00", 12, api.RR{Name: "\x01a\x00", Type: api.A, Class: 1, Data: "abcd"}))
	// Output: 6
}
