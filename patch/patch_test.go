package patch

import (
	"fmt"
	"math"
	"math/rand"
	"slices"
	"strings"
	"testing"

	"wellspring/api"
	"wellspring/chain"
	"wellspring/edns"
	"wellspring/msg"
	"wellspring/reply"
	"wellspring/tmpl"
)

const (
	week = 604800
	top  = 1099511627776
	root = "\x00"
)

// most is a name of 255 bytes, as many as a name may have.
var most = strings.Repeat("\x3f"+strings.Repeat("x", 63), 3) + "\x3d" + strings.Repeat("y", 61) + root

var (
	key   = api.Question{Name: "\x01a\x01b\x00", Type: api.A, Class: 1}
	asked = reply.Ask{ID: 0x1234, Bits: 0x0110, Q: api.Question{Name: "\x01A\x01b\x00", Type: api.A, Class: 1}}
	// question is what is asked, as bytes.
	question = "\x01A\x01b\x00\x00\x01\x00\x01"
)

// numbers lays numbers out in two bytes each.
func numbers(all ...int) string {
	s := ""
	for _, n := range all {
		s += string([]byte{byte(n >> 8), byte(n)})
	}
	return s
}

// tail is what stands behind a record's name.
func tail(kind, class, ttl int, d string) string {
	return numbers(kind, class, ttl>>16, ttl, len(d)) + d
}

// hit is a set of class 1.
func hit(name string, kind int, left int, datas ...string) chain.Hit {
	return chain.Hit{Set: api.Set{Key: api.Question{Name: name, Type: kind, Class: 1}, Datas: datas, TTL: 99}, Left: left}
}

func link(left int) chain.Hit { return hit("\x01a\x01b\x00", api.CNAME, left, "\x01c\x01b\x00") }

func three(left int) chain.Hit {
	return hit("\x01c\x01b\x00", api.A, left, "1111", "2222", "3333")
}

// soa is one of the root's, of two data.
func soa(left int) chain.Hit {
	return hit(root, api.SOA, left, soaData(0), soaData(1))
}

func soaData(i int) string {
	return []string{"\x01m\x00\x01r\x000123456789abcdef\x00\x00\x00\x05", "\x00\x00" + strings.Repeat("s", 20)}[i]
}

// The records of these, as they stand behind what is asked.
func linkText(left int) string            { return "\xc0\x0c" + tail(5, 1, left, "\x01c\x01b\x00") }
func threeText(d string, left int) string { return "\x01c\xc0\x0e" + tail(1, 1, left, d) }
func soaText(i int, left int) string      { return root + tail(6, 1, left, soaData(i)) }

func show(x any) string { return fmt.Sprintf("%.600q", fmt.Sprintf("%+v", x)) }

func made(t *testing.T, now int, q api.Question, c chain.Chain) tmpl.Template {
	t.Helper()
	x, is := tmpl.Make(now, q, c)
	if !is {
		t.Fatalf("there is no template of %s", show(c))
	}
	return x
}

// whole is a template with all that one may have: it was made at 100, and lives till 105.
func whole(t *testing.T) tmpl.Template {
	return made(t, 100, key, chain.Chain{Hits: []chain.Hit{link(7), three(5)}, End: chain.Nothing, Soa: soa(9)})
}

// fits checks that x is copied, or that it is not, by all three calls.
func fits(t *testing.T, what string, x tmpl.Template, a reply.Ask, now int, want bool) {
	t.Helper()
	before := show(x)
	if got := Fits(x, a, now); got != want {
		t.Errorf("%s: Fits %v", what, got)
	}
	if s, is := Copy(x, a, now, 0); is != want || (s != "") != want {
		t.Errorf("%s: Copy %.200q, %v", what, s, is)
	}
	if n, size := Size(x, a, now); !want && n != 0 || (size != 0) != want {
		t.Errorf("%s: Size %d, %d", what, n, size)
	}
	if show(x) != before {
		t.Errorf("%s: changed: %s, was %s", what, show(x), before)
	}
}

// P19.1: the template may be, and lives at that time.
func TestFitsTemplate(t *testing.T) {
	x := whole(t)
	for now, want := range map[int]bool{math.MinInt: false, -1: false, 0: true, 99: true, 100: true, 104: true, 105: false, 107: false, 200: false, top: false, math.MaxInt: false} {
		fits(t, fmt.Sprint("at ", now), x, asked, now, want)
	}
	for now, want := range map[int]bool{math.MinInt: false, -1: false, 0: true, 5: true, top - 1: true, top: true, top + 1: false, math.MaxInt: false} {
		fits(t, fmt.Sprint("no pieces, at ", now), made(t, 5, key, chain.Chain{}), asked, now, want)
	}
	for i, spoil := range []func(x *tmpl.Template){
		func(x *tmpl.Template) { x.Text = x.Text[:len(x.Text)-1] },
		func(x *tmpl.Template) { x.Pieces[0].Spans = nil },
		func(x *tmpl.Template) { x.Pieces[1].Until = 100 },
		func(x *tmpl.Template) { x.Pieces[2].Until = 0 },
		func(x *tmpl.Template) { x.Pieces[2].Spans = []tmpl.Span{{From: -1, TTL: 0, To: 4}} },
		func(x *tmpl.Template) { x.Pieces[1].Spans = []tmpl.Span{{From: 0, TTL: 0, To: 3}} },
		func(x *tmpl.Template) { x.Pieces[1].Spans = []tmpl.Span{{From: 0, TTL: math.MaxInt, To: math.MinInt}} },
	} {
		y := x
		y.Pieces = slices.Clone(x.Pieces)
		fits(t, fmt.Sprint("whole, ahead of case ", i), y, asked, 100, true)
		spoil(&y)
		fits(t, fmt.Sprint("case ", i), y, asked, 100, false)
	}
}

// P19.1: a Soa is the last piece.
func TestFitsSoa(t *testing.T) {
	for _, c := range []struct {
		soa  string
		want bool
	}{{"", true}, {"n", true}, {"y", true}, {"nn", true}, {"ny", true}, {"yn", false}, {"yy", false}, {"nnn", true}, {"nny", true}, {"nyn", false}, {"ynn", false}, {"yyn", false}, {"nyy", false}, {"yny", false}, {"yyy", false}} {
		x := tmpl.Template{Key: key, Text: "1234"}
		for _, r := range c.soa {
			x.Pieces = append(x.Pieces, tmpl.Piece{Spans: []tmpl.Span{{To: 4}}, Until: 9, Soa: r == 'y'})
		}
		fits(t, c.soa, x, asked, 5, c.want)
	}
}

// P19.1: numbers of the template, and of who asks.
func TestFitsNumbers(t *testing.T) {
	for n, want := range map[int]bool{math.MinInt: false, -1: false, 0: true, 1: true, 3: true, 15: true, 16: false, 17: false, 256: false, math.MaxInt: false} {
		x := whole(t)
		x.Code = n
		fits(t, fmt.Sprint("code ", n), x, asked, 100, want)
	}
	for n, want := range map[int]bool{math.MinInt: false, -1: false, 0: true, 1: true, 65535: true, 65536: false, math.MaxInt: false} {
		a, x, y := asked, whole(t), whole(t)
		a.ID = n
		fits(t, fmt.Sprint("ID ", n), x, a, 100, want)
		a = asked
		a.Q.Type, x.Key.Type = n, n
		fits(t, fmt.Sprint("type ", n), x, a, 100, want)
		fits(t, fmt.Sprint("another type ", n), whole(t), a, 100, n == 1)
		a = asked
		a.Q.Class, y.Key.Class = n, n
		fits(t, fmt.Sprint("class ", n), y, a, 100, want)
		fits(t, fmt.Sprint("another class ", n), whole(t), a, 100, n == 1)
		a = asked
		a.Bits = n
		fits(t, fmt.Sprint("bits ", n), whole(t), a, 100, true)
		for _, has := range []bool{false, true} {
			a.Opt = edns.Opt{Has: has, Size: n, Ext: n, Vers: n}
			fits(t, fmt.Sprint("opt ", n), whole(t), a, 100, true)
		}
	}
}

// P19.1: the name that is asked is that of the template, in whatever letters; that of the template has small ones.
func TestFitsNames(t *testing.T) {
	for _, c := range []struct {
		key, name string
		want      bool
	}{
		{"\x01a\x01b\x00", "\x01a\x01b\x00", true},
		{"\x01a\x01b\x00", "\x01A\x01B\x00", true},
		{"\x01a\x01b\x00", "\x01a\x01B\x00", true},
		{"\x01a\x01b\x00", "\x01a\x01c\x00", false},
		{"\x01a\x01b\x00", "\x01b\x00", false},
		{"\x01a\x01b\x00", "\x03a\x01b\x00", false},
		{"\x01a\x01b\x00", root, false},
		{"\x01a\x01b\x00", "", false},
		{"\x01a\x01b\x00", "\x01a\x01b", false},
		{"\x01a\x01b\x00", "\x01a\x01b\x00\x00", false},
		{"\x01A\x01b\x00", "\x01A\x01b\x00", false},
		{"\x01A\x01b\x00", "\x01a\x01b\x00", false},
		{"\x03a.b\x00", "\x01a\x01b\x00", false},
		{root, root, true},
		{most, most, true},
		{most, strings.ToUpper(most), true},
		{strings.ToUpper(most), strings.ToUpper(most), false},
		{"\x01[\x00", "\x01{\x00", false},
		{"\x01\xe0\x00", "\x01\xc0\x00", false},
		{"", "", false},
		{"", "a", false},
		{"", "\x01A\x01b", false},
		{"a", "a", false},
		{"a", "A", false},
		{"\x01a" + most, "\x01a" + most, false},
		{"\x01a" + most, "\x01A" + most, false},
		{"", "\x01a" + most, false},
	} {
		x, a := whole(t), asked
		x.Key.Name, a.Q.Name = c.key, c.name
		fits(t, fmt.Sprintf("%.20q, %.20q", c.key, c.name), x, a, 100, c.want)
	}
}

// P19.2: how much there is without pieces: the chapter's example, and names and OPT records of all kinds.
func TestSizeBare(t *testing.T) {
	for _, c := range []struct {
		name string
		has  bool
		want int
	}{{"\x01a\x00", false, 19}, {root, false, 17}, {root, true, 28}, {"\x01A\x01b\x00", false, 21}, {"\x01A\x01b\x00", true, 32}, {most, false, 271}, {most, true, 282}} {
		x, a := made(t, 100, key, chain.Chain{}), asked
		a.Q.Name, x.Key.Name = c.name, strings.ToLower(c.name)
		// Of what the client says of himself nothing is copied but Do.
		for _, size := range []int{math.MinInt, 0, 512, 70000, math.MaxInt} {
			a.Opt = edns.Opt{Has: c.has, Size: size, Ext: size, Vers: size, Do: size == 0}
			n, got := Size(x, a, 100)
			s, is := Copy(x, a, 100, 0)
			if n != 0 || got != c.want || len(s) != c.want || !is {
				t.Errorf("Size of %.20q, %v: %d, %d; %d bytes", c.name, c.has, n, got, len(s))
			}
		}
	}
}

// pieced is a template of pieces with as many bytes.
func pieced(sizes ...int) tmpl.Template {
	x := tmpl.Template{Key: key, Text: strings.Repeat("x", slices.Max(sizes))}
	for _, size := range sizes {
		x.Pieces = append(x.Pieces, tmpl.Piece{Spans: []tmpl.Span{{To: size}}, Until: 200})
	}
	return x
}

// P19.2: from the first piece on as many as can be added, up to the last byte that is allowed, and not one more.
func TestSizeLimits(t *testing.T) {
	none := edns.Opt{}
	own := func(size int) edns.Opt { return edns.Opt{Has: true, Size: size} }
	for _, c := range []struct {
		x    tmpl.Template
		opt  edns.Opt
		n    int
		size int
	}{
		{pieced(512 - 21), none, 1, 512},
		{pieced(513 - 21), none, 0, 21},
		{pieced(512 - 32), own(512), 1, 512},
		{pieced(513 - 32), own(512), 0, 32},
		{pieced(512 - 21), own(512), 0, 32},
		{pieced(512 - 32), own(0), 1, 512},
		{pieced(513 - 32), own(0), 0, 32},
		{pieced(512 - 32), own(math.MinInt), 1, 512},
		{pieced(513 - 32), own(-1), 0, 32},
		{pieced(513 - 32), own(513), 1, 513},
		{pieced(513 - 21), edns.Opt{Size: 513}, 0, 21},
		{pieced(1000 - 32), own(999), 0, 32},
		{pieced(1000 - 32), own(1000), 1, 1000},
		{pieced(4096 - 32), own(4095), 0, 32},
		{pieced(4096 - 32), own(4096), 1, 4096},
		{pieced(4096 - 32), own(4097), 1, 4096},
		{pieced(4097 - 32), own(4097), 0, 32},
		{pieced(4097 - 32), own(65535), 0, 32},
		{pieced(4097 - 32), own(math.MaxInt), 0, 32},
		{pieced(100, 200, 191), none, 3, 512},
		{pieced(100, 200, 192), none, 2, 321},
		{pieced(100, 200, 192, 4), none, 2, 321},
		{pieced(100, 500, 4, 4), none, 1, 121},
		{pieced(500, 4, 4, 4), none, 0, 21},
		{pieced(100, 391, 4), none, 2, 512},
		{pieced(100000), own(60000), 0, 32},
		{pieced(4, 100000, 4), own(60000), 1, 36},
	} {
		a := asked
		a.Opt = c.opt
		n, size := Size(c.x, a, 100)
		s, is := Copy(c.x, a, 100, 0)
		if n != c.n || size != c.size || len(s) != size || !is {
			t.Errorf("Size of %v: %d, %d, want %d, %d; %d bytes", c.opt, n, size, c.n, c.size, len(s))
		}
		bits := "\x81\x90"
		if n < len(c.x.Pieces) {
			bits = "\x83\x90"
		}
		if is && s[2:4] != bits {
			t.Errorf("bits of %v: %q, want %q", c.opt, s[2:4], bits)
		}
	}
}

// P19.2: a piece has as many bytes as all its spans, wherever they lie.
func TestSizeSpans(t *testing.T) {
	x := tmpl.Template{Key: key, Text: "0123456789", Pieces: []tmpl.Piece{
		{Spans: []tmpl.Span{{From: 4, To: 10, TTL: 5}, {From: 0, To: 10, TTL: 3}, {From: 0, To: 10, TTL: 3}}, Until: 200},
		{Spans: []tmpl.Span{{From: 1, To: 5, TTL: 1}}, Until: 201, Soa: true},
	}}
	if n, size := Size(x, asked, 100); n != 2 || size != 21+26+4 {
		t.Errorf("Size: %d, %d", n, size)
	}
	want := numbers(0x1234, 0x8190, 1, 3, 1, 0) + question + "012\x00\x00\x00\x64789" + "012\x00\x00\x00\x64789" + "4\x00\x00\x00\x649" + "\x00\x00\x00\x65"
	copies(t, x, asked, 100, 4, want)
}

// copies checks all that is told of what fits.
func copies(t *testing.T, x tmpl.Template, a reply.Ask, now int, turn int, want string) {
	t.Helper()
	before := show(x)
	if got, is := Copy(x, a, now, turn); got != want || !is {
		t.Errorf("Copy at %d, turn %d, of %s:\n%q, %v, want\n%q", now, turn, show(a), got, is, want)
	}
	if _, size := Size(x, a, now); size != len(want) {
		t.Errorf("Size at %d, of %s: %d, want %d", now, show(a), size, len(want))
	}
	if !Fits(x, a, now) {
		t.Errorf("at %d, %s does not fit", now, show(a))
	}
	if show(x) != before {
		t.Errorf("changed: %s, was %s", show(x), before)
	}
}

// P19.3: all bytes: of each time, and of each turn.
func TestCopy(t *testing.T) {
	x := whole(t)
	for turn := range 7 {
		for now := 100; now < 105; now++ {
			left := 105 - now
			datas := []string{"1111", "2222", "3333"}
			body := linkText(left + 2)
			for i := range 3 {
				body += threeText(datas[(i+turn)%3], left)
			}
			body += soaText(0, left+4) + soaText(1, left+4)
			copies(t, x, asked, now, turn, numbers(0x1234, 0x8193, 1, 4, 2, 0)+question+body)
			a := asked
			a.Opt = edns.Opt{Has: true, Size: 700, Ext: 5, Vers: 7, Do: turn%2 == 1}
			opt := root + numbers(41, 4096, 0, []int{0, 0x8000}[turn%2], 0)
			copies(t, x, a, now, turn, numbers(0x1234, 0x8193, 1, 4, 2, 1)+question+body+opt)
		}
	}
	body := linkText(7) + threeText("2222", 5) + threeText("3333", 5) + threeText("1111", 5) + soaText(0, 9) + soaText(1, 9)
	copies(t, x, asked, 100, math.MaxInt, numbers(0x1234, 0x8193, 1, 4, 2, 0)+question+body)
}

// P19.3: the head: numbers from the least to the most, bits of all kinds, each code.
func TestCopyHead(t *testing.T) {
	for _, id := range []int{0, 1, 255, 256, 65535} {
		for code := range 16 {
			for bits, want := range map[int]int{0: 0x8080, 0x0100: 0x8180, 0x7fff: 0xf990, 0xffff: 0xf990, 0x0010: 0x8090, 0x0200: 0x8080, 0x040f: 0x8080, 0x7800: 0xf880, -1: 0x8080, 65536 + 0x0100: 0x8080, math.MinInt: 0x8080, math.MaxInt: 0x8080} {
				for number, kind := range map[int]string{0: "\x00\x00", 1: "\x00\x01", 258: "\x01\x02", 65535: "\xff\xff"} {
					x, a := made(t, 100, key, chain.Chain{Hits: []chain.Hit{link(7)}}), asked
					x.Code, a.ID, a.Bits = code, id, bits
					x.Key.Type, a.Q.Type = number, number
					x.Key.Class, a.Q.Class = 65535-number, 65535-number
					rest := "\x01A\x01b\x00" + kind + numbers(65535-number) + linkText(7)
					copies(t, x, a, 100, 0, numbers(id, want+code, 1, 1, 0, 0)+rest)
				}
			}
		}
	}
}

// P19.3: pieces that are left out are not counted, and TC is told; what is behind them is left out, too.
func TestCopyCut(t *testing.T) {
	many := hit("\x01c\x01b\x00", api.A, 5)
	body := ""
	for i := range 27 {
		d := fmt.Sprintf("%04d", i)
		many.Set.Datas = append(many.Set.Datas, d)
		body += threeText(d, 5)
	}
	// 27 records of 18 bytes are 486; the first piece has 17.
	x := made(t, 100, key, chain.Chain{Hits: []chain.Hit{link(7), many}, End: chain.NoData, Soa: soa(9)})
	end := soaText(0, 9) + soaText(1, 9)
	copies(t, x, asked, 100, 0, numbers(0x1234, 0x8390, 1, 1, 0, 0)+question+linkText(7))
	all := 32 + 17 + 486 + len(end)
	for size, kept := range map[int]int{0: 1, 512: 1, 32 + 17 + 486 - 1: 1, 32 + 17 + 486: 2, all - 1: 2, all: 3, all + 1: 3, 65535: 3} {
		a := asked
		a.Opt = edns.Opt{Has: true, Size: size, Do: true}
		bits, an, ns := []int{0, 0x8390, 0x8390, 0x8190}[kept], []int{0, 1, 28, 28}[kept], []int{0, 0, 0, 2}[kept]
		pieces := strings.Join([]string{linkText(7), body, end}[:kept], "")
		copies(t, x, a, 100, 0, numbers(0x1234, bits, 1, an, ns, 1)+question+pieces+root+numbers(41, 4096, 0, 0x8000, 0))
	}
	// A Soa alone that is too long: nothing is told but TC.
	y := pieced(600)
	y.Pieces[0].Soa, y.Code = true, 3
	copies(t, y, asked, 100, 0, numbers(0x1234, 0x8393, 1, 0, 0, 0)+question)
}

// P19.3: a turn below 0.
func TestCopyTurns(t *testing.T) {
	for _, turn := range []int{-1, -3, math.MinInt} {
		for _, x := range []tmpl.Template{whole(t), made(t, 100, key, chain.Chain{})} {
			if s, is := Copy(x, asked, 100, turn); s != "" || is {
				t.Errorf("turn %d: %q, %v", turn, s, is)
			}
		}
	}
}

// later is the chain some seconds later.
func later(c chain.Chain, seconds int) chain.Chain {
	hits := slices.Clone(c.Hits)
	for i := range hits {
		hits[i].Left -= seconds
	}
	c.Hits = hits
	c.Soa.Left -= seconds
	return c
}

// drawn is a chain of hits of some names, some with many records.
func drawn(draw *rand.Rand) chain.Chain {
	names := []string{root, "\x01a\x00", "\x01b\x00", "\x01a\x01b\x00", "\x01c\x01a\x01b\x00", most}
	c := chain.Chain{End: draw.Intn(3), Name: "\x01x\x00"}
	for range draw.Intn(5) {
		name, left := names[draw.Intn(len(names))], 1+draw.Intn(300)
		switch draw.Intn(3) {
		case 0:
			c.Hits = append(c.Hits, hit(name, api.CNAME, left, names[draw.Intn(len(names))]))
		case 1:
			c.Hits = append(c.Hits, hit(name, api.MX, left, "\x00\x05"+names[draw.Intn(len(names))]))
		case 2:
			many := hit(name, api.A, left)
			for i := range 1 + draw.Intn(1<<draw.Intn(9)) {
				many.Set.Datas = append(many.Set.Datas, fmt.Sprintf("%04d", i))
			}
			c.Hits = append(c.Hits, many)
		}
	}
	if c.End != chain.Found {
		c.Soa = soa(1 + draw.Intn(300))
	}
	return c
}

// letters is a name of which some letters are great.
func letters(draw *rand.Rand, name string) string {
	b := []byte(name)
	for i, c := range b {
		if 'a' <= c && c <= 'z' && draw.Intn(2) == 0 {
			b[i] = c - 'a' + 'A'
		}
	}
	return string(b)
}

// P19.4: what is copied is what would be built of the chain, with what is left of its times.
func TestDrawn(t *testing.T) {
	draw := rand.New(rand.NewSource(19))
	copied, cut, dead := 0, 0, 0
	for range 6000 {
		c := drawn(draw)
		low := []string{root, "\x01b\x00", "\x01a\x01b\x00", "\x01c\x01a\x01b\x00", most}[draw.Intn(5)]
		a := reply.Ask{ID: draw.Intn(65536), Bits: draw.Intn(65536), Q: api.Question{Name: letters(draw, low), Type: draw.Intn(65536), Class: draw.Intn(65536)}}
		if draw.Intn(3) > 0 {
			a.Opt = edns.Opt{Has: true, Size: draw.Intn(1 << (5 + draw.Intn(12))), Ext: draw.Intn(128), Vers: draw.Intn(256), Do: draw.Intn(2) == 0}
		}
		start, turn, seconds := draw.Intn(top), draw.Intn(20), draw.Intn(1<<draw.Intn(9))
		x := made(t, start, api.Question{Name: low, Type: a.Q.Type, Class: a.Q.Class}, c)
		got, is := Copy(x, a, start+seconds, turn)
		if c.Least() != 0 && c.Least() <= seconds {
			dead++
			if is || got != "" {
				t.Fatalf("copied: %d seconds later, of %s", seconds, show(c))
			}
			continue
		}
		want := reply.Build(a, later(c, seconds), turn)
		if !is || got != want {
			t.Fatalf("Copy %d seconds later, turn %d, of %s, asked %s: %v\n%.300q, want\n%.300q", seconds, turn, show(c), show(a), is, got, want)
		}
		m, e := msg.Decode(got)
		if e != api.OK || m.ID != a.ID || len(m.Qs) != 1 || m.Qs[0] != a.Q || len(got) > a.Opt.Limit() {
			t.Fatalf("%.300q: error %d", got, e)
		}
		copied++
		if m.Bits&0x0200 != 0 {
			cut++
		}
	}
	if min(copied, cut, dead) < 500 {
		t.Errorf("%d copied, %d cut, %d dead: too few", copied, cut, dead)
	}
}

// The chapter's example.
func ExampleSize() {
	q := api.Question{Name: "\x01a\x00", Type: api.A, Class: 1}
	x, _ := tmpl.Make(5, q, chain.Chain{})
	fmt.Println(Size(x, reply.Ask{Q: q}, 5))
	// Output:
	// 0 19
}
