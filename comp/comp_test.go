package comp

import (
	"fmt"
	"math"
	"slices"
	"strings"
	"testing"

	"wellspring/api"
	"wellspring/name"
)

var (
	x63 = strings.Repeat("x", 63)
	// three has three labels and 192 bytes, and no end.
	three = strings.Repeat("\x3f"+x63, 3)
	// most is a name of 255 bytes, as many as a name may have.
	most = three + "\x3d" + strings.Repeat("y", 61) + "\x00"
	// deep is a name of 127 labels, as many as a name may have.
	deep = strings.Repeat("\x01a", 127) + "\x00"
)

type reading struct {
	msg  string
	at   int
	name string
	next int
	e    api.Errno
}

func check(t *testing.T, cases []reading) {
	t.Helper()
	for _, c := range cases {
		n, next, e := Read(c.msg, c.at)
		if n != c.name || next != c.next || e != c.e {
			t.Errorf("Read(%q, %d): %q, %d, %d; not %q, %d, %d", c.msg, c.at, n, next, e, c.name, c.next, c.e)
		}
	}
}

// P4.1: names without pointers.
func TestReadWhole(t *testing.T) {
	check(t, []reading{
		{"\x00", 0, "\x00", 1, api.OK},
		{"\x01a\x00", 2, "\x00", 3, api.OK},
		{"zz\x03wWw\x02\x00\xff\x00zz", 2, "\x03wWw\x02\x00\xff\x00", 10, api.OK},
		{"\x3f" + x63 + "\x00", 0, "\x3f" + x63 + "\x00", 65, api.OK},
		{most, 0, most, 255, api.OK},
		{"z" + most + "z", 1, most, 256, api.OK},
		{deep, 0, deep, 255, api.OK},
	})
}

// P4.1: pointers, and the place behind the first of them.
func TestReadPointers(t *testing.T) {
	z := strings.Repeat("z", 16383)
	check(t, []reading{
		{"\x01a\x00\xc0\x00", 3, "\x01a\x00", 5, api.OK},
		{"\x01a\x00\xc0\x02", 3, "\x00", 5, api.OK},
		{"\x01a\x00\x01B\xc0\x00z", 3, "\x01B\x01a\x00", 7, api.OK},
		{"\x01a\x00\x01b\xc0\x00\x01c\xc0\x03\x00", 7, "\x01c\x01b\x01a\x00", 11, api.OK},
		{"\x00\xc0\x00\xc0\x01\xc0\x03", 5, "\x00", 7, api.OK},
		{"\x00\x00\xc0\x01\xc0\x02", 4, "\x00", 6, api.OK},
		{z[:256] + "\x01a\x00\xc1\x00", 259, "\x01a\x00", 261, api.OK},
		{z + "\x00\xff\xff", 16384, "\x00", 16386, api.OK},
		{z + z + z + z + "\x00\x00\x01b\x00", 65534, "\x01b\x00", 65537, api.OK},
		{"\x00" + z + z + z + z + "\xc0\x00", 65533, "\x00", 65535, api.OK},
	})
}

// P4.1: a pointer leads ahead of the name, and what stands there runs on into the name's own bytes.
func TestReadOver(t *testing.T) {
	check(t, []reading{
		{"\x03ab\x01\x00\xc0\x00", 3, "\x01\x00\x03ab\x01\x00", 7, api.OK},
		{"\x01z\x01a\xc0\x00", 2, "", 0, api.ErrName},
		{"\x01z\xc0\x00", 2, "", 0, api.ErrName},
		{"\x3f\xc0\x00", 1, "", 0, api.ErrCut},
	})
}

// P4.1: how long a name is is counted over all its pointers.
func TestReadLongByPointers(t *testing.T) {
	tail := most[192:]
	longer := "\x3e" + x63[:62] + "\x00"
	check(t, []reading{
		{tail + three + "\xc0\x00", 63, most, 257, api.OK},
		{longer + three + "\xc0\x00", 64, "", 0, api.ErrName},
		{most + "\xc0\x00", 255, most, 257, api.OK},
		{most + "\x01a\xc0\x00", 255, "", 0, api.ErrName},
		{"\x00" + most[:254] + "\xc0\x00", 1, most, 257, api.OK},
		{"\x00" + most[:254] + "\x01a\xc0\x00", 1, "", 0, api.ErrName},
		{deep + "\xc0\x00", 255, deep, 257, api.OK},
		{deep + "\x01b\xc0\x02", 255, "\x01b" + deep[2:], 259, api.OK},
		{deep + "\x01b\xc0\x00", 255, "", 0, api.ErrName},
	})
}

// P4.1: bytes that are not there.
func TestReadCut(t *testing.T) {
	check(t, []reading{
		{"", 0, "", 0, api.ErrCut},
		{"", -1, "", 0, api.ErrCut},
		{"\x00", 1, "", 0, api.ErrCut},
		{"\x00", -1, "", 0, api.ErrCut},
		{"\x00", 2, "", 0, api.ErrCut},
		{"\x00", math.MaxInt, "", 0, api.ErrCut},
		{"\x00", math.MinInt, "", 0, api.ErrCut},
		{"\x01", 0, "", 0, api.ErrCut},
		{"\x01a", 0, "", 0, api.ErrCut},
		{"\x02a", 0, "", 0, api.ErrCut},
		{"\x3f" + x63[1:], 0, "", 0, api.ErrCut},
		{"\x00\xc0", 1, "", 0, api.ErrCut},
		{"\x00\xff", 1, "", 0, api.ErrCut},
		{"\x00\x01a\xc0", 1, "", 0, api.ErrCut},
		{"\xc0", 0, "", 0, api.ErrCut},
		{"\x05a\xc0\x00", 2, "", 0, api.ErrCut},
		{most[:254], 0, "", 0, api.ErrCut},
		{three, 0, "", 0, api.ErrCut},
	})
}

// P4.1: lengths that are none.
func TestReadNoLength(t *testing.T) {
	for c := 64; c < 192; c++ {
		b := string([]byte{byte(c)})
		check(t, []reading{
			{b, 0, "", 0, api.ErrName},
			{b + strings.Repeat("a", 200) + "\x00", 0, "", 0, api.ErrName},
			{"\x01a" + b + "\x00", 0, "", 0, api.ErrName},
			{b + "\x01c\xc0\x00", 1, "", 0, api.ErrName},
		})
	}
}

// P4.1: pointers that tell no place ahead of all that was read.
func TestReadNoPlace(t *testing.T) {
	check(t, []reading{
		{"\xc0\x00", 0, "", 0, api.ErrName},
		{"\x00\xc0\x01", 1, "", 0, api.ErrName},
		{"\x00\xc0\x02\x00", 1, "", 0, api.ErrName},
		{"\x00\xc0\x03\x00", 1, "", 0, api.ErrName},
		{"\x00\xff\xff\x00", 1, "", 0, api.ErrName},
		{"\x00\x01a\xc0\x01", 1, "", 0, api.ErrName},
		{"\x00\x01a\xc0\x02", 1, "", 0, api.ErrName},
		{"\x00\x01a\xc0\x03", 1, "", 0, api.ErrName},
		// The second pointer tells a place ahead of the name, but not of where the first one led.
		{"\xc0\x00\x00\xc0\x00", 3, "", 0, api.ErrName},
		{"\xc0\x02\x00\xc0\x00", 3, "", 0, api.ErrName},
		{"\x01a\xc0\x00\xc0\x00", 4, "", 0, api.ErrName},
		{"\x00\x00\xc0\x02\xc0\x02", 4, "", 0, api.ErrName},
		{"\x00\xc0\x03\x00\xc0\x01", 4, "", 0, api.ErrName},
	})
}

// P4.1: of several faults the one that is read first.
func TestReadFirstFault(t *testing.T) {
	y := strings.Repeat("y", 62)
	check(t, []reading{
		{"\x40", 0, "", 0, api.ErrName},
		{"\x03a\x40", 0, "", 0, api.ErrCut},
		{three + "\x3e" + y[:61], 0, "", 0, api.ErrCut},
		{three + "\x3e" + y, 0, "", 0, api.ErrName},
		{three + "\x3e" + y + "\x05", 0, "", 0, api.ErrName},
		{three + "\x3e" + y + "\xc0", 0, "", 0, api.ErrName},
		{three + "\x3d" + y[:61] + "\x01", 0, "", 0, api.ErrCut},
		{three + "\x3d" + y[:61] + "\x01a", 0, "", 0, api.ErrName},
		{three + "\x3d" + y[:61] + "\xc0", 0, "", 0, api.ErrCut},
	})
}

// model reads a name as the chapter's words say it: labels from a place on, then the rest from
// where a pointer leads; told are the places that the rest may not begin at or behind.
func model(msg string, at int, told []int, length int) (string, int, api.Errno) {
	if at < 0 || at >= len(msg) {
		return "", 0, api.ErrCut
	}
	c := int(msg[at])
	if c == 0 {
		return "\x00", at + 1, api.OK
	}
	if c >= 64 && c <= 191 {
		return "", 0, api.ErrName
	}
	if c < 64 {
		if at+c >= len(msg) {
			return "", 0, api.ErrCut
		}
		if length+1+c+1 > 255 {
			return "", 0, api.ErrName
		}
		rest, next, e := model(msg, at+1+c, told, length+1+c)
		if e != api.OK {
			return "", 0, e
		}
		return msg[at:at+1+c] + rest, next, api.OK
	}
	if at+1 >= len(msg) {
		return "", 0, api.ErrCut
	}
	place := (c-192)*256 + int(msg[at+1])
	for _, p := range told {
		if place >= p {
			return "", 0, api.ErrName
		}
	}
	rest, _, e := model(msg, place, append(slices.Clone(told), place), length)
	if e != api.OK {
		return "", 0, e
	}
	return rest, at + 2, api.OK
}

// messages hands all messages of up to size bytes, of a few bytes that mean something, to visit.
func messages(size int, visit func(string)) {
	const few = "\x00\x01\x02\x03\x40\xc0"
	var grow func(string)
	grow = func(m string) {
		visit(m)
		if len(m) == size {
			return
		}
		for i := range len(few) {
			grow(m + few[i:i+1])
		}
	}
	grow("")
}

// P4.1: every small message, at every place.
func TestReadSmallMessages(t *testing.T) {
	read := 0
	messages(6, func(m string) {
		for at := -1; at <= len(m); at++ {
			wantName, wantNext, wantE := model(m, at, []int{at}, 0)
			n, next, e := Read(m, at)
			if n != wantName || next != wantNext || e != wantE {
				t.Fatalf("Read(%q, %d): %q, %d, %d; not %q, %d, %d", m, at, n, next, e, wantName, wantNext, wantE)
			}
			if e == api.OK {
				read++
			}
			if name.Check(n) != (e == api.OK) {
				t.Fatalf("Read(%q, %d): %q, %d", m, at, n, e)
			}
		}
	})
	if read == 0 {
		t.Error("no name was read")
	}
}

// P4.1: chains of pointers as long as a message can hold, each one ahead of the last.
func TestReadLongChain(t *testing.T) {
	m := []byte{0}
	for place := 0; len(m) < 16384; {
		at := len(m)
		m = append(m, byte(0xc0|place>>8), byte(place))
		place = at
	}
	at := len(m) - 2
	check(t, []reading{{string(m), at, "\x00", at + 2, api.OK}})
}

// P4.2
func TestWrite(t *testing.T) {
	ab := "\x01a\x01b\x00"
	for _, c := range []struct {
		base string
		at   int
		n    string
		want string
	}{
		{ab, 12, "\x01x\x01B\x00", "\x01x\xc0\x0e"},
		{ab, 12, ab, "\xc0\x0c"},
		{ab, 12, "\x01A\x01B\x00", "\xc0\x0c"},
		{"\x01A\x01B\x00", 12, ab, "\xc0\x0c"},
		{ab, 12, "\x01b\x00", "\xc0\x0e"},
		{ab, 12, "\x01X\x01y\x01a\x01b\x00", "\x01X\x01y\xc0\x0c"},
		{ab, 12, "\x01a\x00", "\x01a\x00"},
		{ab, 12, "\x01a\x01c\x00", "\x01a\x01c\x00"},
		{ab, 12, "\x01b\x01a\x00", "\x01b\x01a\x00"},
		{ab, 12, "\x00", "\x00"},
		{"\x00", 12, "\x00", "\x00"},
		{"\x00", 12, ab, ab},
		// The same bytes at the end, but no label of their own.
		{"\x02ab\x00", 12, "\x01b\x00", "\x01b\x00"},
		{"\x03\x01ab\x00", 12, "\x02ab\x00", "\x02ab\x00"},
		{"\x01b\x00", 12, "\x03a\x01b\x00", "\x03a\x01b\x00"},
		// The longest end, where labels are alike.
		{"\x01a\x01a\x00", 12, "\x01a\x00", "\xc0\x0e"},
		{"\x01a\x01a\x00", 12, "\x01a\x01a\x01a\x00", "\x01a\xc0\x0c"},
		{"\x01a\x00", 12, "\x01a\x01a\x00", "\x01a\xc0\x0c"},
		{most, 12, most, "\xc0\x0c"},
		{most, 12, most[192:], "\xc0\xcc"},
		{deep, 16000, "\x01a\x00", "\xff\x7c"},
		{ab, 0, ab, "\xc0\x00"},
		{ab, 254, "\x01b\x00", "\xc1\x00"},
		{ab, 16000, ab, "\xfe\x80"},
		{ab, 16000, "\x01b\x00", "\xfe\x82"},
	} {
		if got := Write(c.base, c.at, c.n); got != c.want {
			t.Errorf("Write(%q, %d, %q): %q, not %q", c.base, c.at, c.n, got, c.want)
		}
	}
}

// P4.2: no names, and places out of their bounds.
func TestWriteNothing(t *testing.T) {
	for _, bad := range []string{"", "a", "\x01a", "\x02a\x00", "\x00\x00", "\xc0\x00", "\x01a\xc0\x00", "\x40" + x63 + "x\x00", "\x01a" + most} {
		for _, n := range []string{"\x00", "\x01a\x00", most} {
			if got := Write(bad, 12, n) + Write(n, 12, bad) + Write(bad, 12, bad); got != "" {
				t.Errorf("with %q: %q", bad, got)
			}
		}
	}
	for _, at := range []int{-1, 16001, 16384, math.MaxInt, math.MinInt} {
		for _, n := range []string{"\x00", "\x01a\x00", "\x01b\x00"} {
			if got := Write("\x01a\x00", at, n) + Write("\x00", at, n); got != "" {
				t.Errorf("at %d: %q", at, got)
			}
		}
	}
}

// common is how many labels the ends of both have in common, great and small letters alike.
func common(a, b []string) int {
	k := 0
	for k < len(a) && k < len(b) && strings.EqualFold(a[len(a)-1-k], b[len(b)-1-k]) {
		k++
	}
	return k
}

func names() []string {
	all := []string{"\x00", most, three[:128] + "\x01Y\x00", deep, strings.ToUpper(deep), deep[4:], "\x01b" + deep[2:]}
	labels := []string{"\x01a", "\x01A", "\x01b", "\x02ab", "\x02\x01a"}
	for _, x := range labels {
		all = append(all, x+"\x00")
		for _, y := range labels {
			all = append(all, x+y+"\x00")
			for _, z := range labels {
				all = append(all, x+y+z+"\x00")
			}
		}
	}
	return all
}

// P4.2 and P4.3: each name beside each base is as short as it can be, and read again,
// with the base's letters from the pointer on.
func TestWrittenIsRead(t *testing.T) {
	for _, at := range []int{0, 12, 300, 16000} {
		ahead := strings.Repeat("\xff", at)
		for _, base := range names() {
			for _, n := range names() {
				written := Write(base, at, n)
				nl, bl := name.Labels(n), name.Labels(base)
				k := common(nl, bl)
				want, _ := name.Join(append(slices.Clone(nl[:len(nl)-k]), bl[len(bl)-k:]...))
				size := len(n)
				if k > 0 {
					end, _ := name.Join(nl[len(nl)-k:])
					size += 2 - len(end)
				}
				from := at + len(base)
				got, next, e := Read(ahead+base+written+"\xff", from)
				if got != want || len(written) != size || next != from+size || e != api.OK {
					t.Fatalf("base %q at %d, n %q: written %q, read %q, %d, %d", base, at, n, written, got, next, e)
				}
				if !name.Same(got, n) {
					t.Fatalf("base %q, n %q: read %q", base, n, got)
				}
			}
		}
	}
}

func ExampleWrite() {
	fmt.Printf("%q\n", Write("\x01a\x01b\x00", 12, "\x01x\x01B\x00"))
	// Output: "\x01x\xc0\x0e"
}
