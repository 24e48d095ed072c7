package data

import (
	"fmt"
	"math"
	"slices"
	"strings"
	"testing"

	"wellspring/api"
	"wellspring/comp"
	"wellspring/name"
)

var (
	x63 = strings.Repeat("x", 63)
	// most is a name of 255 bytes, as many as a name may have.
	most = strings.Repeat("\x3f"+x63, 3) + "\x3d" + strings.Repeat("Y", 61) + "\x00"
	// more is a name but for its 256 bytes.
	more = strings.Repeat("\x3f"+x63, 3) + "\x3e" + strings.Repeat("Y", 62) + "\x00"
	s20  = strings.Repeat("S", 20)
)

// shaped are the types whose data is not any bytes.
var shaped = []int{api.A, api.NS, api.CNAME, api.SOA, api.PTR, api.MX, api.TXT, api.AAAA, api.SRV}

// nameAlone are the types that hold one name.
var nameAlone = []int{api.NS, api.CNAME, api.PTR}

// others are some types of no shape, and numbers that are no types.
func others() []int {
	all := []int{math.MinInt, -1, api.OPT, 65535, 65536, math.MaxInt}
	for kind := range 300 {
		if !slices.Contains(shaped, kind) {
			all = append(all, kind)
		}
	}
	return all
}

// text lays a text out with its length ahead.
func text(size int) string { return string([]byte{byte(size)}) + strings.Repeat("T", size) }

type sample struct {
	kind  int
	d     string
	names []string
	low   string
}

// good are data that have their types' shapes.
func good() []sample {
	all := []sample{
		{api.A, "ABcd", nil, "ABcd"},
		{api.A, "\x00\x00\x00\x00", nil, "\x00\x00\x00\x00"},
		{api.A, "\xc0\x00\x01A", nil, "\xc0\x00\x01A"},
		{api.AAAA, "ABCDEFGHIJKLMNOP", nil, "ABCDEFGHIJKLMNOP"},
		{api.SOA, "\x00\x00" + s20, []string{"\x00", "\x00"}, "\x00\x00" + s20},
		{api.SOA, "\x01A\x00\x02bC\x01D\x00" + s20, []string{"\x01A\x00", "\x02bC\x01D\x00"}, "\x01a\x00\x02bc\x01d\x00" + s20},
		{api.SOA, most + most + s20, []string{most, most}, strings.ToLower(most+most) + s20},
		{api.MX, "AB\x00", []string{"\x00"}, "AB\x00"},
		{api.MX, "\xc0\x00\x01C\x00", []string{"\x01C\x00"}, "\xc0\x00\x01c\x00"},
		{api.MX, "AB" + most, []string{most}, "AB" + strings.ToLower(most)},
		{api.SRV, "ABCDEF\x00", []string{"\x00"}, "ABCDEF\x00"},
		{api.SRV, "ABCDEF\x02GH\x01I\x00", []string{"\x02GH\x01I\x00"}, "ABCDEF\x02gh\x01i\x00"},
		{api.TXT, "\x00", nil, "\x00"},
		{api.TXT, "\x00\x00", nil, "\x00\x00"},
		{api.TXT, "\x01A", nil, "\x01A"},
		{api.TXT, "\x01A\x00\x02BC", nil, "\x01A\x00\x02BC"},
		{api.TXT, text(63) + text(64) + text(192) + text(255), nil, text(63) + text(64) + text(192) + text(255)},
		{api.TXT, strings.Repeat(text(255), 255) + text(254), nil, strings.Repeat(text(255), 255) + text(254)},
	}
	for _, kind := range nameAlone {
		all = append(all,
			sample{kind, "\x00", []string{"\x00"}, "\x00"},
			sample{kind, "\x01A\x02bC\x00", []string{"\x01A\x02bC\x00"}, "\x01a\x02bc\x00"},
			sample{kind, "\x08@AZ[`az{\x02\x00\xc0\x00", []string{"\x08@AZ[`az{\x02\x00\xc0\x00"}, "\x08@az[`az{\x02\x00\xc0\x00"},
			sample{kind, most, []string{most}, strings.ToLower(most)},
		)
	}
	for _, kind := range others() {
		for _, d := range []string{"", "A", "\x00", "\xc0\x00", "\x05A", "\x01A\x00", s20} {
			all = append(all, sample{kind, d, nil, d})
		}
	}
	return append(all, sample{99, strings.Repeat("X", 65535), nil, strings.Repeat("X", 65535)})
}

// bad are data that have not their types' shapes, and hold no pointer.
func bad() []sample {
	var all []sample
	add := func(kind int, data ...string) {
		for _, d := range data {
			all = append(all, sample{kind: kind, d: d})
		}
	}
	add(api.A, "", "a", "abc", "abcde", "abcdefgh", strings.Repeat("a", 16))
	add(api.AAAA, "", "abcd", strings.Repeat("a", 15), strings.Repeat("a", 17), strings.Repeat("a", 32))
	for _, kind := range nameAlone {
		add(kind, "", "A", "\x01", "\x01A", "\x02A\x00", "\x00\x00", "\x00A", "\x01A\x00\x00", "\x01A\x00z", "AB\x00", "\x40"+x63+"x\x00", more, "\x01a"+most)
	}
	add(api.SOA, "", "\x00", "\x00\x00", "\x00"+s20, "\x00\x00"+s20[1:], "\x00\x00\x00"+s20, "\x00\x00"+s20+"S", "\x01A"+s20, "\x01A\x00\x01B"+s20, "\x00\x40"+s20, more+"\x00"+s20, "\x00"+more+s20, s20+"\x00\x00")
	add(api.MX, "", "A", "AB", "AB\x01", "AB\x01C", "AB\x00\x00", "A\x00", "\x00", "ABC\x00", "AB"+more)
	add(api.SRV, "", "ABCDE", "ABCDEF", "ABCDEF\x01", "ABCDEF\x01G", "ABCDEF\x00z", "ABCDE\x00", "ABCDEFG\x00", "AB\x01C\x00", "ABCDEF"+more)
	add(api.TXT, "", "\x01", "\x02A", "\x01AB", "\x00\x01", "\x01A\x02B", text(255)[:255], text(255)+"\x01", strings.Repeat(text(255), 256))
	for _, kind := range append(others(), shaped...) {
		add(kind, strings.Repeat("\x00", 65536))
	}
	return all
}

// pointed are data in which a pointer ends a name: shapes where they are expanded, but not whole.
func pointed() []sample {
	return []sample{
		{kind: api.NS, d: "\xc0\x00"},
		{kind: api.CNAME, d: "\x01A\xc0\x00"},
		{kind: api.PTR, d: "\xff\xff"},
		{kind: api.SOA, d: "\x01A\x00\xc0\x00" + s20},
		{kind: api.SOA, d: "\x00\xc0\x00" + s20},
		{kind: api.SOA, d: "\x01A\x00\x01B\xc0\x00" + s20},
		{kind: api.MX, d: "\x00\x00\xc0\x00"},
		{kind: api.MX, d: "\x00\x00\xc0\x01"},
		{kind: api.SRV, d: "ABC\x01D\x00\xc0\x03"},
		{kind: api.SRV, d: "ABCDE\x00\x01A\xc0\x05"},
	}
}

// P5.1
func TestGoodData(t *testing.T) {
	for _, c := range good() {
		if !Check(c.kind, c.d) {
			t.Errorf("Check(%d, %.80q) = false", c.kind, c.d)
		}
		if got := Names(c.kind, c.d); !slices.Equal(got, c.names) {
			t.Errorf("Names(%d, %.80q) = %q, want %q", c.kind, c.d, got, c.names)
		}
		if got := Low(c.kind, c.d); got != c.low {
			t.Errorf("Low(%d, %.80q) = %.80q, want %.80q", c.kind, c.d, got, c.low)
		}
	}
}

// P5.1
func TestBadData(t *testing.T) {
	for _, c := range append(bad(), pointed()...) {
		if Check(c.kind, c.d) {
			t.Errorf("Check(%d, %.80q) = true", c.kind, c.d)
		}
		if got := Names(c.kind, c.d); len(got) != 0 {
			t.Errorf("Names(%d, %.80q) = %.80q", c.kind, c.d, got)
		}
		if got := Low(c.kind, c.d); got != "" {
			t.Errorf("Low(%d, %.80q) = %.80q", c.kind, c.d, got)
		}
	}
}

// P5.1: one byte fewer or more is another shape, in each type that does not hold any bytes.
func TestShapesAreExact(t *testing.T) {
	for _, c := range good() {
		if !slices.Contains(shaped, c.kind) || c.kind == api.TXT {
			continue
		}
		if d := c.d[:len(c.d)-1]; Check(c.kind, d) {
			t.Errorf("Check(%d, %.80q) = true", c.kind, d)
		}
		for _, end := range []string{"\x00", "a"} {
			if Check(c.kind, c.d+end) {
				t.Errorf("Check(%d, %.80q and %q) = true", c.kind, c.d, end)
			}
		}
	}
}

// P5.1, R5: the answers of Names are the caller's own.
func TestNamesAreNew(t *testing.T) {
	d := "\x01A\x00\x01B\x00" + s20
	Names(api.SOA, d)[0] = "changed"
	if got := Names(api.SOA, d); !slices.Equal(got, []string{"\x01A\x00", "\x01B\x00"}) {
		t.Errorf("Names = %q", got)
	}
}

type expanding struct {
	msg            string
	at, size, kind int
	want           string
	e              api.Errno
}

func check(t *testing.T, cases []expanding) {
	t.Helper()
	for _, c := range cases {
		if d, e := Expand(c.msg, c.at, c.size, c.kind); d != c.want || e != c.e {
			t.Errorf("Expand(%.80q, %d, %d, %d) = %.80q, %d, want %.80q, %d", c.msg, c.at, c.size, c.kind, d, e, c.want, c.e)
		}
	}
}

// P5.2: names from pointers.
func TestExpandPointers(t *testing.T) {
	const m = "\x01A\x01b\x00" // the names A.b at 0, b at 2, the root at 4
	soa := "\x01C\xc0\x00\x01d\xc0\x05" + s20
	check(t, []expanding{
		{m + "\xc0\x00", 5, 2, api.NS, m, api.OK},
		{m + "\xc0\x02", 5, 2, api.CNAME, "\x01b\x00", api.OK},
		{m + "\xc0\x04", 5, 2, api.PTR, "\x00", api.OK},
		{m + "\x02Cd\xc0\x00zz", 5, 5, api.NS, "\x02Cd" + m, api.OK},
		{m + "\xc0\x00\xc0\x05\xc0\x07", 9, 2, api.NS, m, api.OK},
		{m + "\xc0\x00\xc0\x05", 7, 2, api.NS, m, api.OK},
		{m + "AB\xc0\x00", 5, 4, api.MX, "AB" + m, api.OK},
		{m + "\xc0\x00\xc0\x00", 5, 4, api.MX, "\xc0\x00" + m, api.OK},
		{m + "ABCDEF\xc0\x02", 5, 8, api.SRV, "ABCDEF\x01b\x00", api.OK},
		{m + "\xc0\x00\xc0\x02" + s20, 5, 24, api.SOA, m + "\x01b\x00" + s20, api.OK},
		{m + soa, 5, len(soa), api.SOA, "\x01C" + m + "\x01d\x01C" + m + s20, api.OK},
		{m + soa + "z", 5, len(soa), api.SOA, "\x01C" + m + "\x01d\x01C" + m + s20, api.OK},
		{most + "\xc0\x00\xc0\x00" + s20, 255, 24, api.SOA, most + most + s20, api.OK},
		// Into the data's own bytes, ahead of the name.
		{"\x00\x00\xc0\x01", 0, 4, api.MX, "\x00\x00\x00", api.OK},
		{"\x01A\x00\xc0\x00" + s20, 0, 25, api.SOA, "\x01A\x00\x01A\x00" + s20, api.OK},
	})
}

// P5.2: names that are none there.
func TestExpandNoNames(t *testing.T) {
	check(t, []expanding{
		{"\xc0\x00", 0, 2, api.NS, "", api.ErrData},
		{"\x01a\x00\xc0\x03", 3, 2, api.NS, "", api.ErrData},
		{"\x01a\x00\xc0\x05\x00", 3, 2, api.NS, "", api.ErrData},
		{"\x00\x40\x00", 1, 2, api.NS, "", api.ErrData},
		{"\x40\xc0\x00", 1, 2, api.NS, "", api.ErrData},
		{most + "\x01a\xc0\x00", 255, 4, api.NS, "", api.ErrData},
		{more, 0, 256, api.NS, "", api.ErrData},
		{"\x00\xc0", 1, 1, api.NS, "", api.ErrData},
		{"\x05a", 0, 2, api.NS, "", api.ErrData},
		{"\x01a", 0, 2, api.NS, "", api.ErrData},
		{"\x00\xc0\x00\xc0\x03" + s20, 1, 24, api.SOA, "", api.ErrData},
		{"\x00\xc0\x01\xc0\x00" + s20, 1, 24, api.SOA, "", api.ErrData},
	})
}

// P5.2: the shape must end where the bytes do.
func TestExpandEnds(t *testing.T) {
	const m = "\x00\x01a\x00\xc0\x00\x00\x00zzzzzzzzzzzzzzzzzzzzzzzzzzzzzzz"
	check(t, []expanding{
		{m, 1, 3, api.NS, "\x01a\x00", api.OK},
		{m, 1, 0, api.NS, "", api.ErrData},
		{m, 1, 1, api.NS, "", api.ErrData},
		{m, 1, 2, api.NS, "", api.ErrData},
		{m, 1, 4, api.NS, "", api.ErrData},
		{m, 4, 1, api.NS, "", api.ErrData},
		{m, 4, 2, api.NS, "\x00", api.OK},
		{m, 4, 3, api.NS, "", api.ErrData},
		{m, 4, 0, api.MX, "", api.ErrData},
		{m, 4, 1, api.MX, "", api.ErrData},
		{m, 4, 2, api.MX, "", api.ErrData},
		{m, 4, 3, api.MX, "\xc0\x00\x00", api.OK},
		{m, 4, 4, api.MX, "", api.ErrData},
		{m, 0, 6, api.SRV, "", api.ErrData},
		{m, 0, 7, api.SRV, "\x00\x01a\x00\xc0\x00\x00", api.OK},
		{m, 0, 8, api.SRV, "", api.ErrData},
		{m, 6, 20, api.SOA, "", api.ErrData},
		{m, 6, 21, api.SOA, "", api.ErrData},
		{m, 6, 22, api.SOA, "\x00\x00zzzzzzzzzzzzzzzzzzzz", api.OK},
		{m, 6, 23, api.SOA, "", api.ErrData},
		{m, 6, 1, api.SOA, "", api.ErrData},
		{m, 6, 2, api.SOA, "", api.ErrData},
		{m, 0, 3, api.A, "", api.ErrData},
		{m, 0, 4, api.A, "\x00\x01a\x00", api.OK},
		{m, 0, 5, api.A, "", api.ErrData},
		{m, 6, 15, api.AAAA, "", api.ErrData},
		{m, 6, 16, api.AAAA, "\x00\x00zzzzzzzzzzzzzz", api.OK},
		{m, 6, 17, api.AAAA, "", api.ErrData},
		{m, 0, 0, api.TXT, "", api.ErrData},
		{m, 0, 1, api.TXT, "\x00", api.OK},
		{m, 0, 2, api.TXT, "", api.ErrData},
		{m, 0, 3, api.TXT, "\x00\x01a", api.OK},
		{m, 0, 4, api.TXT, "\x00\x01a\x00", api.OK},
		{m, 4, 2, api.TXT, "", api.ErrData},
		{m, 4, 2, 99, "\xc0\x00", api.OK},
		{m, 0, 0, 99, "", api.OK},
		{m, len(m), 0, 99, "", api.OK},
		{m, len(m), 0, api.NS, "", api.ErrData},
	})
}

// P5.2: bytes that are not there, whatever their shape were.
func TestExpandCut(t *testing.T) {
	far := []int{math.MinInt, math.MinInt + 1, -1, 6, math.MaxInt - 1, math.MaxInt}
	for _, kind := range append(others(), shaped...) {
		for _, x := range far {
			for _, y := range append([]int{0, 1, 2, 5}, far...) {
				check(t, []expanding{
					{"\x00\x01a\x00z", x, y, kind, "", api.ErrCut},
					{"\x00\x01a\x00z", y, x, kind, "", api.ErrCut},
				})
			}
		}
		check(t, []expanding{
			{"", 0, 1, kind, "", api.ErrCut},
			{"\x00", 1, 1, kind, "", api.ErrCut},
			{"\x00", 0, 2, kind, "", api.ErrCut},
			{"\x00", 0, 65536, kind, "", api.ErrCut},
		})
	}
}

// P5.2: at most 65535 bytes.
func TestExpandLong(t *testing.T) {
	texts := strings.Repeat(text(255), 256)
	check(t, []expanding{
		{strings.Repeat("x", 65536), 0, 65535, 99, strings.Repeat("x", 65535), api.OK},
		{strings.Repeat("x", 65536), 0, 65536, 99, "", api.ErrData},
		{strings.Repeat("x", 65536), 1, 65536, 99, "", api.ErrCut},
		{texts, 0, 65536, api.TXT, "", api.ErrData},
		{texts[:65535-255] + text(254), 0, 65535, api.TXT, texts[:65535-255] + text(254), api.OK},
		{most + strings.Repeat("x", 70000) + "\xc0\x00", 70255, 2, api.NS, most, api.OK},
		{strings.Repeat("x", 70000) + most, 70000, 255, api.NS, most, api.OK},
	})
}

// lay is how many bytes stand ahead of a type's names, how many names, and how many bytes behind them.
func lay(kind int) (int, int, int) {
	switch kind {
	case api.A:
		return 4, 0, 0
	case api.AAAA:
		return 16, 0, 0
	case api.MX:
		return 2, 1, 0
	case api.SRV:
		return 6, 1, 0
	case api.SOA:
		return 0, 2, 20
	}
	return 0, 1, 0
}

// model expands as the chapter's words say it; the messages are short, so none comes out too long.
func model(msg string, at, size, kind int) (string, api.Errno) {
	if at < 0 || size < 0 || at+size > len(msg) {
		return "", api.ErrCut
	}
	d := msg[at : at+size]
	if !slices.Contains(shaped, kind) {
		return d, api.OK
	}
	if kind == api.TXT {
		rest := d
		for rest != "" && int(rest[0]) < len(rest) {
			rest = rest[1+int(rest[0]):]
		}
		if d == "" || rest != "" {
			return "", api.ErrData
		}
		return d, api.OK
	}
	ahead, names, behind := lay(kind)
	if ahead+behind > size {
		return "", api.ErrData
	}
	all, place := d[:ahead], at+ahead
	for range names {
		n, next, e := comp.Read(msg, place)
		if e != api.OK || next > at+size-behind {
			return "", api.ErrData
		}
		all, place = all+n, next
	}
	if place != at+size-behind {
		return "", api.ErrData
	}
	return all + d[size-behind:], api.OK
}

// P5.2, P5.3: every small message, at every place, of every size and type.
func TestExpandSmallMessages(t *testing.T) {
	const few = "\x00\x01\x02A\xc0"
	kinds := append(slices.Clone(shaped), -1, 0, 99)
	expanded := 0
	var grow func(string)
	grow = func(m string) {
		tail := m + strings.Repeat("\x00", 20)
		for _, msg := range []string{m, tail} {
			for at := -1; at <= len(m); at++ {
				for size := -1; size <= len(msg)-at+1; size++ {
					for _, kind := range kinds {
						want, wantE := model(msg, at, size, kind)
						d, e := Expand(msg, at, size, kind)
						if d != want || e != wantE {
							t.Fatalf("Expand(%q, %d, %d, %d) = %q, %d, want %q, %d", msg, at, size, kind, d, e, want, wantE)
						}
						if e == api.OK && !Check(kind, d) {
							t.Fatalf("Expand(%q, %d, %d, %d) = %q, which has not its shape", msg, at, size, kind, d)
						}
						if e == api.OK && slices.Contains(shaped, kind) {
							expanded++
						}
					}
				}
			}
		}
		if len(m) == 4 {
			return
		}
		for i := range len(few) {
			grow(m + few[i:i+1])
		}
	}
	grow("")
	if expanded == 0 {
		t.Error("nothing was expanded")
	}
}

// P5.3: what stands there whole is told as it stands, and has its type's shape.
func TestWholeIsToldAsItStands(t *testing.T) {
	for _, c := range good() {
		for _, ahead := range []string{"", "\x01a\x00", "\xc0\x00\xff"} {
			check(t, []expanding{
				{ahead + c.d, len(ahead), len(c.d), c.kind, c.d, api.OK},
				{ahead + c.d + "\x00z", len(ahead), len(c.d), c.kind, c.d, api.OK},
			})
		}
	}
	for _, c := range bad() {
		check(t, []expanding{{"\x00" + c.d, 1, len(c.d), c.kind, "", api.ErrData}})
	}
}

// P5.1, P5.3: what is expanded has names, and small letters of its names alone.
func TestExpandedHasNames(t *testing.T) {
	const m = "\x01A\x01B\x00"
	d, e := Expand(m+"\x01C\xc0\x00\xc0\x02"+s20, 5, 26, api.SOA)
	if e != api.OK || !Check(api.SOA, d) {
		t.Fatalf("Expand = %q, %d", d, e)
	}
	want := []string{"\x01C\x01A\x01B\x00", "\x01B\x00"}
	if got := Names(api.SOA, d); !slices.Equal(got, want) {
		t.Errorf("Names = %q, want %q", got, want)
	}
	if got := Low(api.SOA, d); got != name.Low(want[0])+name.Low(want[1])+s20 {
		t.Errorf("Low = %q", got)
	}
}

func ExampleExpand() {
	d, e := Expand("\x01a\x00\x00\x0a\xc0\x00", 3, 4, api.MX)
	fmt.Printf("%q %d\n", d, e)
	// Output: "\x00\n\x01a\x00" 0
}
