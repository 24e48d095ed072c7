package tmpl

import (
	"fmt"
	"math"
	"math/rand"
	"slices"
	"strings"
	"testing"

	"wellspring/api"
	"wellspring/chain"
	"wellspring/group"
	"wellspring/record"
)

const (
	week = 604800
	top  = 1099511627776
	root = "\x00"
)

// most is a name of 255 bytes, as many as a name may have.
var most = strings.Repeat("\x3f"+strings.Repeat("x", 63), 3) + "\x3d" + strings.Repeat("y", 61) + root

var asked = api.Question{Name: "\x01a\x01b\x00", Type: api.A, Class: 1}

// tail is what stands behind a record's name.
func tail(kind, class, ttl int, d string) string {
	s := ""
	for _, n := range []int{kind, class, ttl >> 16, ttl, len(d)} {
		s += string([]byte{byte(n >> 8), byte(n)})
	}
	return s + d
}

// hit is a set of class 1.
func hit(name string, kind int, left int, datas ...string) chain.Hit {
	return chain.Hit{Set: api.Set{Key: api.Question{Name: name, Type: kind, Class: 1}, Datas: datas, TTL: 99}, Left: left}
}

func link(left int) chain.Hit { return hit("\x01a\x01b\x00", api.CNAME, left, "\x01c\x01b\x00") }

func three(left int) chain.Hit {
	return hit("\x01c\x01b\x00", api.A, left, "1111", "2222", "3333")
}

// soa is one of the root's, of two data.
func soa(left int) chain.Hit {
	return hit(root, api.SOA, left, "\x01m\x00\x01r\x000123456789abcdef\x00\x00\x00\x05", "\x00\x00"+strings.Repeat("s", 20))
}

// The records of these, as they stand behind asked.
func linkText(left int) string            { return "\xc0\x0c" + tail(5, 1, left, "\x01c\x01b\x00") }
func threeText(d string, left int) string { return "\x01c\xc0\x0e" + tail(1, 1, left, d) }
func soaText(i int, left int) string      { return root + tail(6, 1, left, soa(left).Set.Datas[i]) }

func show(t Template) string { return fmt.Sprintf("%.600q", fmt.Sprintf("%+v", t)) }

// makes checks the whole of a template that is made.
func makes(t *testing.T, now int, q api.Question, c chain.Chain, want Template) {
	t.Helper()
	before := fmt.Sprint(c)
	got, is := Make(now, q, c)
	if !is || show(got) != show(want) || got.Text != want.Text {
		t.Errorf("Make at %d of %.300q: %v\n%s, want\n%s", now, before, is, show(got), show(want))
	}
	if fmt.Sprint(c) != before {
		t.Errorf("Make changed %.300q", before)
	}
	if !got.Check() || !got.Live(now) {
		t.Errorf("Make at %d of %.300q: Check %v, Live %v", now, before, got.Check(), got.Live(now))
	}
}

// P18.1: the whole template, of all ends.
func TestMake(t *testing.T) {
	linkPiece := Piece{Spans: []Span{{0, 17, 6}}, Until: 107}
	threePiece := Piece{Spans: []Span{{17, 35, 25}, {35, 53, 43}, {53, 71, 61}}, Until: 105}
	text := linkText(7) + threeText("1111", 5) + threeText("2222", 5) + threeText("3333", 5)
	size := len(soaText(0, 9))
	makes(t, 100, asked, chain.Chain{}, Template{Key: asked})
	makes(t, 100, asked, chain.Chain{Name: "x", Soa: soa(9)}, Template{Key: asked})
	makes(t, 100, asked, chain.Chain{Hits: []chain.Hit{link(7)}, End: chain.Found}, Template{Key: asked, Text: linkText(7), Pieces: []Piece{linkPiece}})
	makes(t, 100, asked, chain.Chain{Hits: []chain.Hit{link(7), three(5)}}, Template{Key: asked, Text: text, Pieces: []Piece{linkPiece, threePiece}})
	for end, code := range map[int]int{chain.NoData: 0, chain.Nothing: 3} {
		makes(t, 100, asked, chain.Chain{Hits: []chain.Hit{link(7)}, End: end, Soa: soa(9)}, Template{Key: asked, Code: code, Text: linkText(7) + soaText(0, 9) + soaText(1, 9), Pieces: []Piece{
			linkPiece,
			{Spans: []Span{{17, 17 + size, 22}, {17 + size, 17 + size + 33, 22 + size}}, Until: 109, Soa: true},
		}})
		makes(t, 100, asked, chain.Chain{End: end, Soa: three(5)}, Template{Key: asked, Code: code, Text: text[17:], Pieces: []Piece{
			{Spans: []Span{{0, 18, 8}, {18, 36, 26}, {36, 54, 44}}, Until: 105, Soa: true},
		}})
	}
}

// P18.1: times and what is left, from the least to the most.
func TestMakeTimes(t *testing.T) {
	for _, now := range []int{0, 1, 1000, top - week, top - 1, top} {
		for _, left := range []int{1, 2, 255, 256, 65535, 65536, week - 1, week} {
			makes(t, now, asked, chain.Chain{Hits: []chain.Hit{link(left)}}, Template{Key: asked, Text: linkText(left), Pieces: []Piece{{Spans: []Span{{0, 17, 6}}, Until: now + left}}})
		}
	}
}

// P18.1: all names, types and classes that may be; a record's name points into the one that is asked.
func TestMakeKeys(t *testing.T) {
	for name, owner := range map[string]string{
		root:                     "\x01a\x01b\x00",
		"\x01a\x01b\x00":         "\xc0\x0c",
		"\x01b\x00":              "\x01a\xc0\x0c",
		"\x01x\x01a\x01b\x00":    "\xc0\x0e",
		"\x01x\x01b\x00":         "\x01a\xc0\x0e",
		"\x02\xff\x00\x01b\x00":  "\x01a\xc0\x0f",
		most:                     "\x01a\x01b\x00",
		most[:192] + "\x01b\x00": "\x01a\xc0\xcc",
	} {
		for _, q := range []api.Question{{Name: name}, {Name: name, Type: 65535, Class: 65535}, {Name: name, Type: 6, Class: 254}} {
			c := chain.Chain{Hits: []chain.Hit{hit("\x01a\x01b\x00", 99, 1, "x")}}
			span := Span{To: len(owner) + 11, TTL: len(owner) + 4}
			makes(t, 0, q, c, Template{Key: q, Text: owner + tail(99, 1, 1, "x"), Pieces: []Piece{{Spans: []Span{span}, Until: 1}}})
		}
	}
}

// makesNothing checks that there is no template.
func makesNothing(t *testing.T, now int, q api.Question, c chain.Chain) {
	t.Helper()
	if got, is := Make(now, q, c); is || show(got) != show(Template{}) {
		t.Errorf("Make at %d of %.200q, %.300q: %s, %v", now, fmt.Sprint(q), fmt.Sprint(c), show(got), is)
	}
}

// P18.1: no template.
func TestMakeNothing(t *testing.T) {
	good := []chain.Chain{{}, {Hits: []chain.Hit{link(7), three(5)}}, {Hits: []chain.Hit{link(7)}, End: chain.Nothing, Soa: soa(9)}, {End: chain.NoData, Soa: soa(9)}}
	for _, c := range good {
		for _, now := range []int{-1, math.MinInt, top + 1, math.MaxInt} {
			makesNothing(t, now, asked, c)
		}
		for _, name := range []string{"", "a", "\x01a", "\x01a\x00\x00", "\xc0\x0c", "\x01A\x00", "\x01a\x01B\x00", strings.ToUpper(most), "\x01a" + most} {
			makesNothing(t, 5, api.Question{Name: name, Type: 1, Class: 1}, c)
		}
		for _, n := range []int{-1, 65536, math.MinInt, math.MaxInt} {
			makesNothing(t, 5, api.Question{Name: root, Type: n, Class: 1}, c)
			makesNothing(t, 5, api.Question{Name: root, Type: 1, Class: n}, c)
		}
		for _, end := range []int{chain.Missing, chain.Long, -1, 5, math.MinInt, math.MaxInt} {
			c.End = end
			makesNothing(t, 5, asked, c)
		}
	}
}

// badHits have no records, or no such time is left of them.
func badHits() []chain.Hit {
	bad := []chain.Hit{
		{},
		{Left: 5},
		hit("\x01a\x00", api.A, 5),
		hit("\x01a\x00", api.A, 5, "111"),
		hit("\x01a\x00", api.A, 5, "1111", "1111"),
		hit("\x01A\x00", api.A, 5, "1111"),
		hit("\x01a", api.A, 5, "1111"),
		hit("\x01a\x00", -1, 5, "1111"),
		hit("\x01a\x00", 65536, 5, "1111"),
		hit("\x01a\x00", api.CNAME, 5, "\x01B\x00"),
	}
	for _, left := range []int{0, -1, math.MinInt, week + 1, 1<<31 - 1, 1 << 31, math.MaxInt} {
		bad = append(bad, three(left))
	}
	late := three(5)
	late.Set.TTL = -1
	return append(bad, late)
}

// P18.1: one bad piece, wherever it is, and there is no template; a Soa that is not told may be as it will.
func TestMakeBadPieces(t *testing.T) {
	for _, bad := range badHits() {
		for place := range 3 {
			hits := slices.Insert([]chain.Hit{link(7), three(5)}, place, bad)
			makesNothing(t, 5, asked, chain.Chain{Hits: hits})
			makesNothing(t, 5, asked, chain.Chain{Hits: hits, End: chain.Nothing, Soa: soa(9)})
		}
		for _, end := range []int{chain.NoData, chain.Nothing} {
			makesNothing(t, 5, asked, chain.Chain{End: end, Soa: bad})
			makesNothing(t, 5, asked, chain.Chain{Hits: []chain.Hit{link(7)}, End: end, Soa: bad})
		}
		makes(t, 5, asked, chain.Chain{Hits: []chain.Hit{link(7)}, Soa: bad}, Template{Key: asked, Text: linkText(7), Pieces: []Piece{{Spans: []Span{{0, 17, 6}}, Until: 12}}})
	}
}

// P18.2: spans, one by one.
func TestCheck(t *testing.T) {
	const size = 10
	good := Span{1, 9, 3}
	for _, c := range []struct {
		s    Span
		want bool
	}{
		{Span{0, 4, 0}, true},
		{Span{0, 10, 6}, true},
		{Span{6, 10, 6}, true},
		{Span{0, 10, 0}, true},
		{Span{3, 8, 4}, true},
		{Span{}, false},
		{Span{-1, 4, 0}, false},
		{Span{-1, 10, -1}, false},
		{Span{-5, -1, -5}, false},
		{Span{0, 3, 0}, false},
		{Span{0, 10, 7}, false},
		{Span{7, 10, 7}, false},
		{Span{7, 11, 7}, false},
		{Span{0, 11, 0}, false},
		{Span{4, 10, 3}, false},
		{Span{1, 5, 0}, false},
		{Span{10, 10, 10}, false},
		{Span{5, 4, 0}, false},
		{Span{0, 4, -1}, false},
		{Span{0, 10, math.MaxInt}, false},
		{Span{0, -10, math.MaxInt}, false},
		{Span{0, math.MinInt, math.MaxInt}, false},
		{Span{0, math.MinInt + 3, math.MaxInt}, false},
		{Span{0, math.MinInt + 3, 0}, false},
		{Span{0, math.MaxInt, 0}, false},
		{Span{math.MaxInt, math.MaxInt, math.MaxInt}, false},
		{Span{math.MinInt, 10, 6}, false},
		{Span{0, 10, math.MinInt}, false},
		{Span{0, 10, math.MaxInt - 3}, false},
	} {
		for _, spans := range [][]Span{{c.s}, {good, c.s}, {c.s, good}} {
			for _, pieces := range [][]Piece{{{Spans: spans}}, {{Spans: []Span{good}, Until: 9}, {Spans: spans, Until: 9, Soa: true}}, {{Spans: spans, Until: 9}, {Spans: []Span{good}, Until: 9}}} {
				x := Template{Text: strings.Repeat("x", size), Pieces: pieces}
				if got := x.Check(); got != c.want {
					t.Errorf("Check of %v: %v", pieces, got)
				}
				if got := x.Part(len(pieces)-1, 0, 0); !c.want && got != "" {
					t.Errorf("Part of %v: %q", pieces, got)
				}
			}
		}
	}
}

// P18.2: pieces without spans, and what does not matter.
func TestCheckPieces(t *testing.T) {
	good := Piece{Spans: []Span{{0, 4, 0}}, Until: 9}
	for _, c := range []struct {
		pieces []Piece
		want   bool
	}{
		{nil, true},
		{[]Piece{}, true},
		{[]Piece{good, good, good}, true},
		{[]Piece{{}}, false},
		{[]Piece{{Spans: []Span{}, Until: 9}}, false},
		{[]Piece{good, {Until: 9}}, false},
		{[]Piece{{Until: 9, Soa: true}, good}, false},
		{[]Piece{{Spans: good.Spans, Until: math.MinInt}, {Spans: good.Spans, Until: math.MaxInt, Soa: true}, good}, true},
	} {
		for _, x := range []Template{{Text: "1234", Pieces: c.pieces}, {Key: api.Question{Name: "no name", Type: -1}, Code: -1, Text: "12345", Pieces: c.pieces}} {
			if got := x.Check(); got != c.want {
				t.Errorf("Check of %v: %v", c.pieces, got)
			}
		}
	}
	if (Template{Pieces: []Piece{good}}).Check() || (Template{Text: "123", Pieces: []Piece{good}}).Check() {
		t.Error("a text that is too short")
	}
}

// P18.2: all pieces live, and now is a time; spans do not matter.
func TestLive(t *testing.T) {
	for _, untils := range [][]int{nil, {5}, {5, 7}, {7, 5}, {7, 7, 5, 7}, {0}, {-1}, {math.MinInt, 5}, {math.MaxInt}, {top, top + 1}, {top + week}} {
		x := Template{}
		least := math.MaxInt
		for _, u := range untils {
			x.Pieces = append(x.Pieces, Piece{Until: u})
			least = min(least, u)
		}
		for _, now := range []int{math.MinInt, -1, 0, 1, 4, 5, 6, 7, 8, top - 1, top, top + 1, math.MaxInt} {
			want := now >= 0 && now <= top && (least > now || len(untils) == 0)
			if got := x.Live(now); got != want {
				t.Errorf("Live at %d of %v: %v", now, untils, got)
			}
		}
	}
}

func parts(t *testing.T, x Template, i int, now int, turn int, want string) {
	t.Helper()
	before := show(x)
	if got := x.Part(i, now, turn); got != want {
		t.Errorf("Part %d at %d, turn %d: %q, want %q", i, now, turn, got, want)
	}
	if show(x) != before {
		t.Errorf("Part changed the template: %s, was %s", show(x), before)
	}
}

// P18.3: what is left of the time, in turns; a Soa has none.
func TestPart(t *testing.T) {
	x, _ := Make(100, asked, chain.Chain{Hits: []chain.Hit{link(7), three(week)}, End: chain.NoData, Soa: soa(300)})
	for turn := range 10 {
		for now := 100; now < 107; now++ {
			parts(t, x, 0, now, turn, linkText(107-now))
		}
		for _, now := range []int{100, 101, 400, 100 + week - 65536, 100 + week - 256, 100 + week - 1} {
			left := 100 + week - now
			one, two, three := threeText("1111", left), threeText("2222", left), threeText("3333", left)
			parts(t, x, 1, now, turn, []string{one + two + three, two + three + one, three + one + two}[turn%3])
		}
		for _, now := range []int{100, 101, 144, 399} {
			parts(t, x, 2, now, turn, soaText(0, 400-now)+soaText(1, 400-now))
		}
	}
	left := week
	parts(t, x, 1, 100, math.MaxInt, threeText("2222", left)+threeText("3333", left)+threeText("1111", left))
}

// P18.3: no such piece, no such turn, no such time, or it does not live; what else is dead does not matter.
func TestPartNothing(t *testing.T) {
	x, _ := Make(100, asked, chain.Chain{Hits: []chain.Hit{link(7), three(5)}, End: chain.NoData, Soa: soa(9)})
	for _, i := range []int{-1, math.MinInt, 3, 4, math.MaxInt} {
		parts(t, x, i, 100, 0, "")
		parts(t, Template{}, i, 100, 0, "")
	}
	parts(t, Template{}, 0, 100, 0, "")
	for i, until := range []int{107, 105, 109} {
		for _, turn := range []int{-1, -3, math.MinInt} {
			parts(t, x, i, 100, turn, "")
		}
		for _, now := range []int{-1, math.MinInt, until, until + 1, top, top + 1, math.MaxInt} {
			parts(t, x, i, now, 0, "")
		}
	}
	parts(t, x, 2, 108, 0, soaText(0, 1)+soaText(1, 1))
	// One bad span, or one piece without, is enough.
	for _, bad := range []Piece{{Until: 200}, {Spans: []Span{{0, 3, 0}}, Until: 200}} {
		y := x
		y.Pieces = append(slices.Clone(x.Pieces), bad)
		for i := range 4 {
			parts(t, y, i, 100, 0, "")
		}
	}
}

// P18.3: templates that Make does not make: spans in any order, one over the other; a time that lies ahead of a week; times that are none.
func TestPartOfOthers(t *testing.T) {
	x := Template{Text: "0123456789", Pieces: []Piece{
		{Spans: []Span{{4, 10, 5}, {0, 10, 0}, {0, 4, 0}, {4, 10, 5}}, Until: 1000},
		{Spans: []Span{{1, 7, 2}, {3, 8, 4}}, Until: math.MaxInt, Soa: true},
		{Spans: []Span{{1, 6, 2}}, Until: top + 3},
	}}
	parts(t, x, 0, 994, 0, "4\x00\x00\x00\x069\x00\x00\x00\x06456789\x00\x00\x00\x064\x00\x00\x00\x069")
	parts(t, x, 0, 994, 3, "4\x00\x00\x00\x0694\x00\x00\x00\x069\x00\x00\x00\x06456789\x00\x00\x00\x06")
	parts(t, x, 1, 994, 3, "1\x00\x09\x3a\x8063\x00\x09\x3a\x80")
	parts(t, x, 1, top, 1, "1\x00\x09\x3a\x8063\x00\x09\x3a\x80")
	parts(t, x, 2, top-week+2, 0, "1\x00\x09\x3a\x80")
	parts(t, x, 2, top-week+3, 0, "1\x00\x09\x3a\x80")
	parts(t, x, 2, top-week+4, 0, "1\x00\x09\x3a\x7f")
	parts(t, x, 2, top, 0, "1\x00\x00\x00\x03")
	parts(t, x, 2, top+1, 0, "")
}

// R5: what was made is the caller's own.
func TestMakeIsNew(t *testing.T) {
	c := chain.Chain{Hits: []chain.Hit{link(7), three(5)}, End: chain.NoData, Soa: soa(9)}
	x, _ := Make(100, asked, c)
	want := show(x)
	y, _ := Make(100, asked, c)
	y.Pieces[1].Spans[0] = Span{}
	y.Pieces[0] = Piece{}
	c.Hits[1].Set.Datas[0] = "9999"
	c.Hits[0] = chain.Hit{}
	if show(x) != want {
		t.Errorf("changed: %s, was %s", show(x), want)
	}
}

// drawn is a chain of hits of some names; some of them are bad.
func drawn(draw *rand.Rand) chain.Chain {
	names := []string{root, "\x01a\x00", "\x01b\x00", "\x01a\x01b\x00", "\x01c\x01a\x01b\x00", most}
	c := chain.Chain{End: draw.Intn(3)}
	next := func() chain.Hit {
		name, left := names[draw.Intn(len(names))], 1+draw.Intn(200)
		switch draw.Intn(20) {
		case 0:
			return badHits()[draw.Intn(len(badHits()))]
		case 1, 2, 3, 4, 5, 6:
			return hit(name, api.CNAME, left, names[draw.Intn(len(names))])
		case 7, 8, 9:
			return soa(left)
		}
		return hit(name, api.A, left, []string{"1111", "2222", "3333", "4444"}[draw.Intn(4):]...)
	}
	for range draw.Intn(6) {
		c.Hits = append(c.Hits, next())
	}
	if c.End != 0 {
		c.Soa = next()
	}
	return c
}

// P18.4: what is made may be, and lives; a part is what the records of the set, in that turn, and with what is left of its time, are.
func TestDrawn(t *testing.T) {
	draw := rand.New(rand.NewSource(18))
	made, none := 0, 0
	for range 10000 {
		c, q := drawn(draw), api.Question{Name: []string{root, "\x01b\x00", "\x01a\x01b\x00", most}[draw.Intn(4)], Type: draw.Intn(65536), Class: draw.Intn(65536)}
		start, turn := draw.Intn(top), draw.Intn(20)
		now := start + draw.Intn(250)
		x, is := Make(start, q, c)
		all := c.Hits
		if c.End != 0 {
			all = append(slices.Clone(all), c.Soa)
		}
		bad := slices.ContainsFunc(all, func(h chain.Hit) bool { return !group.Check(h.Set) || h.Left < 1 || h.Left > week })
		if is == bad {
			t.Fatalf("Make of %.300q: %v", fmt.Sprint(c), is)
		}
		if bad {
			none++
			continue
		}
		made++
		if !x.Check() || !x.Live(start) || len(x.Pieces) != len(all) || x.Key != q {
			t.Fatalf("Make of %.300q: %s", fmt.Sprint(c), show(x))
		}
		live := true
		for i, h := range all {
			mine := turn
			if i == len(c.Hits) {
				mine = 0
			}
			want := ""
			if left := start + h.Left - now; left > 0 {
				for _, r := range group.Flat(h.Set, left, mine) {
					want += record.Encode(q.Name, 12, r)
				}
			} else {
				live = false
			}
			parts(t, x, i, now, turn, want)
		}
		if x.Live(now) != live {
			t.Errorf("Live at %d of %.300q: %v", now-start, fmt.Sprint(c), !live)
		}
		if t.Failed() {
			return
		}
	}
	if min(made, none) < 1000 {
		t.Errorf("%d made, %d not: too few", made, none)
	}
}

// The chapter's example.
func ExampleMake() {
	x, is := Make(5, asked, chain.Chain{})
	fmt.Println(is, len(x.Pieces), x.Live(5))
	// Output:
	// true 0 true
}
