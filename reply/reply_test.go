package reply

import (
	"fmt"
	"math"
	"math/rand"
	"slices"
	"strings"
	"testing"

	"wellspring/api"
	"wellspring/chain"
	"wellspring/edns"
	"wellspring/msg"
)

const (
	week = 604800
	root = "\x00"
)

var (
	x63 = strings.Repeat("x", 63)
	// most is a name of 255 bytes, as many as a name may have.
	most = strings.Repeat("\x3f"+x63, 3) + "\x3d" + strings.Repeat("Y", 61) + root
	// question is what is asked, as bytes: its name in letters of both kinds.
	question = "\x01A\x01b\x00\x00\x01\x00\x01"
	asked    = api.Question{Name: "\x01A\x01b\x00", Type: api.A, Class: 1}
)

// numbers lays numbers out in two bytes each.
func numbers(all ...int) string {
	s := ""
	for _, n := range all {
		s += string([]byte{byte(n >> 8), byte(n)})
	}
	return s
}

// tail is what stands behind a record's name.
func tail(kind, class, ttl int, d string) string {
	return numbers(kind, class, ttl>>16, ttl, len(d)) + d
}

// optBytes are those of an OPT record.
func optBytes(size, ext, vers, low int) string {
	return root + numbers(api.OPT, size, ext*256+vers, low, 0)
}

// text tells what is read for people, cut where it is long.
func text(a Ask) string { return fmt.Sprintf("%.400q", fmt.Sprintf("%+v", a)) }

func reads(t *testing.T, s string, want Ask, kind int, code int) {
	t.Helper()
	if a, k, c := Read(s); a != want || k != kind || c != code {
		t.Errorf("Read(%.200q) = %s, %d, %d, want %s, %d, %d", s, text(a), k, c, text(want), kind, code)
	}
}

// P17.1, 1: what has no header, and what is an answer, is dropped, whatever else is wrong with it.
func TestReadDrop(t *testing.T) {
	good := numbers(0x1234, 0x0100, 1, 0, 0, 0) + question
	for size := range 12 {
		reads(t, good[:size], Ask{}, Drop, 0)
		reads(t, strings.Repeat("\xff", size), Ask{}, Drop, 0)
	}
	reads(t, good, Ask{ID: 0x1234, Bits: 0x0100, Q: asked}, Good, 0)
	for _, bits := range []int{0x8000, 0x8100, 0xf800, 0x8180, 0xffff} {
		for _, rest := range []string{"", question, "\xff"} {
			for _, questions := range []int{0, 1, 65535} {
				reads(t, numbers(0x1234, bits, questions, 0, 0, 0)+rest, Ask{}, Drop, 0)
			}
		}
	}
}

// P17.1, 2: another opcode than 0; of the question nothing is told.
func TestReadOpcode(t *testing.T) {
	for opcode := 1; opcode < 16; opcode++ {
		for _, others := range []int{0, 0x0100, 0x07ff} {
			bits := opcode<<11 | others
			want := Ask{ID: 0xfedc, Bits: bits}
			for _, rest := range []string{
				numbers(0, 0, 0, 0),
				numbers(1, 0, 0, 0) + question,
				numbers(1, 0, 0, 1) + question + optBytes(512, 0, 1, 0),
				numbers(2, 0, 0, 0) + question,
				numbers(1, 0, 0, 0) + question + "left",
				numbers(65535, 65535, 65535, 65535),
				numbers(1, 0, 0, 0) + root + numbers(255, 3),
				numbers(1, 0, 0, 0) + question + strings.Repeat("x", 70000),
			} {
				reads(t, numbers(0xfedc, bits)+rest, want, Bad, 4)
			}
		}
	}
}

// P17.1, 3: what is no message, has not one question alone, or an OPT record that may not be, ahead of all that the question and the record say.
func TestReadFormErr(t *testing.T) {
	odd := "\x01A\x00" + numbers(255, 3)
	vers := optBytes(512, 0, 1, 0)
	a := root + tail(api.A, 1, 9, "1111")
	for i, rest := range []string{
		numbers(0, 0, 0, 0),
		numbers(0, 0, 0, 1) + vers,
		numbers(0, 1, 0, 0) + a,
		numbers(2, 0, 0, 0) + question + question,
		numbers(2, 0, 0, 1) + odd + odd + vers,
		numbers(3, 0, 0, 0) + question + question + question,
		numbers(1, 0, 0, 0),
		numbers(2, 0, 0, 0) + question,
		numbers(1, 0, 0, 0) + question[:len(question)-1],
		numbers(1, 0, 0, 0) + question + root,
		numbers(1, 0, 0, 0) + odd + "left",
		numbers(0, 0, 0, 0) + question,
		numbers(1, 0, 0, 0) + "\x40" + strings.Repeat("x", 64) + root + numbers(1, 1),
		numbers(1, 0, 0, 0) + "\xc0\x0c" + numbers(1, 1),
		numbers(1, 0, 0, 0) + "\xc0\x0d" + numbers(1, 1),
		numbers(1, 1, 0, 0) + question,
		numbers(1, 0, 1, 0) + question,
		numbers(1, 0, 0, 1) + question,
		numbers(1, 1, 0, 0) + question + root + tail(api.A, 1, 9, "111"),
		numbers(1, 0, 0, 1) + question + vers[:len(vers)-1],
		numbers(1, 1, 0, 0) + question + vers,
		numbers(1, 0, 1, 0) + question + vers,
		numbers(1, 0, 0, 2) + question + vers + vers,
		numbers(1, 0, 0, 3) + question + vers + a + optBytes(512, 0, 0, 0),
		numbers(1, 1, 0, 1) + question + optBytes(512, 0, 0, 0) + optBytes(512, 0, 0, 0),
		numbers(1, 0, 0, 1) + question + "\x01a" + vers,
		numbers(1, 0, 0, 1) + odd + "\xc0\x0c" + vers[1:],
		numbers(1, 1, 0, 0) + question + root + tail(api.TXT, 1, 9, strings.Repeat("\xff"+strings.Repeat("x", 255), 256)),
	} {
		for _, bits := range []int{0, 0x0100, 0x07ff} {
			want := Ask{ID: i, Bits: bits}
			reads(t, numbers(i, bits)+rest, want, Bad, 1)
		}
	}
}

// P17.1, 3: 65535 bytes may be a message, one more may not.
func TestReadMostBytes(t *testing.T) {
	head := numbers(7, 0, 1, 0, 0, 1) + question
	for size, want := range map[int]int{65534: Good, 65535: Good, 65536: Bad, 65537: Bad, 100000: Bad} {
		s := head + root + numbers(99, 1, 0, 0, size-len(head)-11) + strings.Repeat("x", size-len(head)-11)
		if size < 65536 {
			reads(t, s, Ask{ID: 7, Q: asked}, want, 0)
		} else {
			reads(t, s, Ask{ID: 7}, want, 1)
		}
	}
}

// P17.1, 4: another version than 0, ahead of all that the question says.
func TestReadBadVers(t *testing.T) {
	for vers := range 256 {
		for _, ext := range []int{0, 1, 127} {
			for _, q := range []api.Question{asked, {Name: most, Type: 255, Class: 3}, {Name: root}} {
				s := numbers(1, 0x0110, 1, 0, 0, 1) + q.Name + numbers(q.Type, q.Class) + optBytes(99, ext, vers, 0x8000)
				want := Ask{ID: 1, Bits: 0x0110, Q: q, Opt: edns.Opt{Has: true, Size: 99, Ext: ext, Vers: vers, Do: true}}
				switch {
				case vers != 0:
					reads(t, s, want, Bad, 16)
				case q.Class != 1:
					reads(t, s, want, Bad, 5)
				default:
					reads(t, s, want, Good, 0)
				}
			}
		}
	}
	// A time of 2^31 or more counts as 0, the version in it, too.
	reads(t, numbers(1, 0, 1, 0, 0, 1)+question+optBytes(512, 128, 1, 0x8000), Ask{ID: 1, Q: asked, Opt: edns.Opt{Has: true, Size: 512}}, Good, 0)
}

// P17.1, 5 to 7: classes, ahead of types; and all types.
func TestReadClassesAndTypes(t *testing.T) {
	for kind := range 65536 {
		q := api.Question{Name: "\x01A\x01b\x00", Type: kind, Class: 1}
		want, code := Good, 0
		if kind == 0 || kind == 41 || kind/128 == 1 {
			want, code = Bad, 4
		}
		reads(t, numbers(kind, 0x0730, 1, 0, 0, 0)+q.Name+numbers(kind, 1), Ask{ID: kind, Bits: 0x0730, Q: q}, want, code)
	}
	for class := range 65536 {
		if class == 1 {
			continue
		}
		for _, kind := range []int{0, 1, 41, 255} {
			q := api.Question{Name: "\x01A\x01b\x00", Type: kind, Class: class}
			reads(t, numbers(9, 0, 1, 0, 0, 0)+q.Name+numbers(kind, class), Ask{ID: 9, Q: q}, Bad, 5)
		}
	}
}

// P17.1, 7: what else a message has does not matter; its name is told as it is asked, whole.
func TestReadGood(t *testing.T) {
	a := "\xc0\x0c" + tail(api.A, 1, 9, "1111")
	opt := optBytes(1232, 5, 0, 0x8000)
	told := edns.Opt{Has: true, Size: 1232, Ext: 5, Do: true}
	for _, bits := range []int{0, 0x0100, 0x0200, 0x0400, 0x07ff, 0x000f} {
		reads(t, numbers(65535, bits, 1, 2, 1, 1)+question+a+a+a+a, Ask{ID: 65535, Bits: bits, Q: asked}, Good, 0)
		reads(t, numbers(65535, bits, 1, 1, 1, 3)+question+a+a+a+opt+a, Ask{ID: 65535, Bits: bits, Q: asked, Opt: told}, Good, 0)
	}
	for _, name := range []string{root, most, "\x01a\x00", "\x02\x00A\x00", x63name()} {
		q := api.Question{Name: name, Type: 65535, Class: 1}
		reads(t, numbers(1, 0, 1, 0, 0, 0)+name+numbers(65535, 1), Ask{ID: 1, Q: q}, Good, 0)
	}
	// The name is told by a pointer: to the ID, a 0 behind it.
	reads(t, numbers(0x0141, 0, 1, 0, 0, 0)+"\x01b\xc0\x00"+numbers(1, 1), Ask{ID: 0x0141, Q: api.Question{Name: "\x01b\x01A\x00", Type: 1, Class: 1}}, Good, 0)
}

func x63name() string { return "\x3f" + x63 + root }

// P17.2: the bytes, one by one.
func TestRefuseBytes(t *testing.T) {
	plain := Ask{ID: 0x1234, Bits: 0x0110, Q: asked}
	opt := plain
	opt.Opt = edns.Opt{Has: true, Size: 99, Ext: 77, Vers: 3}
	secure := opt
	secure.Opt.Do = true
	for code := range 256 {
		head := numbers(0x1234, 0x8190+code%16, 1, 0, 0)
		for i, c := range []struct {
			a    Ask
			want string
		}{
			{plain, head + numbers(0) + question},
			{opt, head + numbers(1) + question + optBytes(4096, code/16, 0, 0)},
			{secure, head + numbers(1) + question + optBytes(4096, code/16, 0, 0x8000)},
		} {
			if got := Refuse(c.a, code); got != c.want {
				t.Errorf("case %d, code %d: %q, want %q", i, code, got, c.want)
			}
		}
	}
}

// P17.2: of an ask without a name there is no question; what else an ask says is not told.
func TestRefuseAsks(t *testing.T) {
	for i, c := range []struct {
		a    Ask
		want string
	}{
		{Ask{}, numbers(0, 0x8082, 0, 0, 0, 0)},
		{Ask{ID: 65535, Bits: 65535}, numbers(65535, 0xf992, 0, 0, 0, 0)},
		{Ask{ID: 1, Bits: 0x7eef, Q: api.Question{Type: -1, Class: 65536}}, numbers(1, 0xf882, 0, 0, 0, 0)},
		{Ask{ID: 1, Bits: -1}, numbers(1, 0x8082, 0, 0, 0, 0)},
		{Ask{ID: 1, Bits: 65536}, numbers(1, 0x8082, 0, 0, 0, 0)},
		{Ask{ID: 1, Bits: math.MaxInt}, numbers(1, 0x8082, 0, 0, 0, 0)},
		{Ask{Opt: edns.Opt{Size: 512, Ext: 1, Vers: 1, Do: true}}, numbers(0, 0x8082, 0, 0, 0, 0)},
		{Ask{Opt: edns.Opt{Has: true, Size: -1, Ext: 1000, Vers: -1}}, numbers(0, 0x8082, 0, 0, 0, 1) + optBytes(4096, 0, 0, 0)},
		{Ask{Q: api.Question{Name: root}}, numbers(0, 0x8082, 1, 0, 0, 0) + root + numbers(0, 0)},
		{Ask{Q: api.Question{Name: most, Type: 65535, Class: 65535}}, numbers(0, 0x8082, 1, 0, 0, 0) + most + numbers(65535, 65535)},
	} {
		if got := Refuse(c.a, 2); got != c.want {
			t.Errorf("case %d: %q, want %q", i, got, c.want)
		}
		// P17.3: there is no answer, so it is refused.
		for _, end := range []int{chain.Missing, chain.Long, -1, 5, math.MinInt, math.MaxInt} {
			if got := Build(c.a, chain.Chain{Hits: []chain.Hit{hit("\x01a\x00", api.A, 9, "1111")}, End: end, Soa: soa(9)}, 1); got != c.want {
				t.Errorf("case %d, End %d: %q, want %q", i, end, got, c.want)
			}
		}
	}
}

// badAsks have no message.
func badAsks() []Ask {
	return []Ask{
		{ID: -1, Q: asked},
		{ID: 65536, Q: asked},
		{ID: math.MinInt},
		{ID: math.MaxInt},
		{Q: api.Question{Name: "no name", Type: 1, Class: 1}},
		{Q: api.Question{Name: "\x01a", Type: 1, Class: 1}},
		{Q: api.Question{Name: "\x01a" + most, Type: 1, Class: 1}},
		{Q: api.Question{Name: "\x01a\x00", Type: -1, Class: 1}},
		{Q: api.Question{Name: "\x01a\x00", Type: 65536, Class: 1}},
		{Q: api.Question{Name: "\x01a\x00", Type: 1, Class: -1}},
		{Q: api.Question{Name: "\x01a\x00", Type: 1, Class: 65536}},
	}
}

// P17.2, P17.3: no bytes.
func TestNothing(t *testing.T) {
	for _, code := range []int{-1, 256, -16, 4096, math.MinInt, math.MaxInt} {
		for _, a := range []Ask{{}, {ID: 9, Q: asked}, {ID: 9, Q: asked, Opt: edns.Opt{Has: true}}} {
			if got := Refuse(a, code); got != "" {
				t.Errorf("Refuse(%s, %d) = %q", text(a), code, got)
			}
		}
	}
	for _, a := range badAsks() {
		for _, has := range []bool{false, true} {
			a.Opt.Has = has
			for _, code := range []int{0, 2, 16, 255} {
				if got := Refuse(a, code); got != "" {
					t.Errorf("Refuse(%s, %d) = %q", text(a), code, got)
				}
			}
			for end := -1; end < 6; end++ {
				for _, c := range []chain.Chain{{}, {Hits: []chain.Hit{hit("\x01a\x00", api.A, 9, "1111")}, Soa: soa(9)}, {Hits: []chain.Hit{addresses(2000)}, Soa: soa(9)}} {
					c.End = end
					if got := Build(a, c, 0); got != "" {
						t.Errorf("Build of %s, End %d: %q", text(a), end, got)
					}
				}
			}
		}
	}
}

// hit is a set of class 1.
func hit(name string, kind int, left int, datas ...string) chain.Hit {
	return chain.Hit{Set: api.Set{Key: api.Question{Name: name, Type: kind, Class: 1}, Datas: datas, TTL: 99}, Left: left}
}

// soa is one of the root's.
func soa(left int) chain.Hit {
	return hit(root, api.SOA, left, "\x01m\x00\x01r\x000123456789abcdef\x00\x00\x00\x05", "\x00\x00"+strings.Repeat("s", 20))
}

// addresses are those of x, as many as count.
func addresses(count int) chain.Hit {
	datas := make([]string, count)
	for i := range datas {
		datas[i] = numbers(i>>16, i)
	}
	return hit("\x01x\x00", api.A, 9, datas...)
}

// P17.3: the bytes, one by one: of all ends, of turns, of names with pointers to the question.
func TestBuildBytes(t *testing.T) {
	link := hit("\x01a\x01b\x00", api.CNAME, 7, "\x01c\x01b\x00")
	two := hit("\x01c\x01b\x00", api.A, week, "1111", "2222", "3333")
	linkBytes := "\xc0\x0c" + tail(5, 1, 7, "\x01c\x01b\x00")
	one := func(d string) string { return "\x01c\xc0\x0e" + tail(1, 1, week, d) }
	soaBytes := root + tail(6, 1, 3, soa(3).Set.Datas[0]) + root + tail(6, 1, 3, soa(3).Set.Datas[1])
	a := Ask{ID: 0x1234, Bits: 0x0110, Q: asked}
	for i, c := range []struct {
		c    chain.Chain
		turn int
		bits int
		an   int
		ns   int
		want string
	}{
		{chain.Chain{}, 0, 0x8190, 0, 0, ""},
		{chain.Chain{Name: "x", Soa: soa(3)}, 5, 0x8190, 0, 0, ""},
		{chain.Chain{Hits: []chain.Hit{link}}, 5, 0x8190, 1, 0, linkBytes},
		{chain.Chain{Hits: []chain.Hit{link, two}, Soa: soa(3)}, 0, 0x8190, 4, 0, linkBytes + one("1111") + one("2222") + one("3333")},
		{chain.Chain{Hits: []chain.Hit{link, two}}, 1, 0x8190, 4, 0, linkBytes + one("2222") + one("3333") + one("1111")},
		{chain.Chain{Hits: []chain.Hit{link, two}}, 2, 0x8190, 4, 0, linkBytes + one("3333") + one("1111") + one("2222")},
		{chain.Chain{Hits: []chain.Hit{two, link}}, math.MaxInt, 0x8190, 4, 0, one("2222") + one("3333") + one("1111") + linkBytes},
		{chain.Chain{Hits: []chain.Hit{link}, End: chain.NoData, Soa: soa(3)}, 1, 0x8190, 1, 2, linkBytes + soaBytes},
		{chain.Chain{Hits: []chain.Hit{link, two}, End: chain.Nothing, Soa: soa(3)}, 3, 0x8193, 4, 2, linkBytes + one("1111") + one("2222") + one("3333") + soaBytes},
		{chain.Chain{End: chain.Nothing, Soa: soa(3)}, 1, 0x8193, 0, 2, soaBytes},
		{chain.Chain{End: chain.NoData}, 0, 0x8190, 0, 0, ""},
		{chain.Chain{Hits: []chain.Hit{link, {}, two, {}}}, 0, 0x8190, 4, 0, linkBytes + one("1111") + one("2222") + one("3333")},
		{chain.Chain{Hits: []chain.Hit{hit("\x01A\x01b\x00", 1, 1, "1111"), hit("\x01a\x00", 1, -1, "1111"), hit("\x01a\x00", 1, 1<<31, "1111"), hit("\x01a\x00", 1, 1, "1111", "1111"), hit("\x01a\x00", 1, 1)}}, 0, 0x8190, 0, 0, ""},
		{chain.Chain{Hits: []chain.Hit{hit("\x01b\x00", 99, 1<<31-1, ""), hit("\x01b\x00", 99, 0, "")}}, 0, 0x8190, 2, 0, "\xc0\x0e" + tail(99, 1, 1<<31-1, "") + "\xc0\x0e" + tail(99, 1, 0, "")},
		{chain.Chain{Hits: []chain.Hit{link, two}, End: chain.Nothing, Soa: soa(3)}, -1, 0x8193, 0, 2, soaBytes},
	} {
		head := numbers(0x1234, c.bits, 1, c.an, c.ns)
		if got, want := Build(a, c.c, c.turn), head+numbers(0)+question+c.want; got != want {
			t.Errorf("case %d: %q, want %q", i, got, want)
		}
		b := a
		b.Opt = edns.Opt{Has: true, Size: 5, Ext: 6, Vers: 7, Do: true}
		if got, want := Build(b, c.c, c.turn), head+numbers(1)+question+c.want+optBytes(4096, 0, 0, 0x8000); got != want {
			t.Errorf("case %d: %q, want %q", i, got, want)
		}
	}
}

// P17.3: without a question no name has anywhere to point to.
func TestBuildWithoutQuestion(t *testing.T) {
	c := chain.Chain{Hits: []chain.Hit{hit("\x01a\x01b\x00", api.A, 7, "1111")}}
	want := numbers(1, 0x8080, 0, 1, 0, 0) + "\x01a\x01b\x00" + tail(1, 1, 7, "1111")
	if got := Build(Ask{ID: 1}, c, 0); got != want {
		t.Errorf("%q, want %q", got, want)
	}
}

// filled is a piece of so many bytes in an answer to asked: 12 at least.
func filled(size int) chain.Hit {
	return hit("\x01a\x01b\x00", 99, 1, strings.Repeat("x", size-12))
}

// P17.3: as many bytes as a client takes are told; of one more a piece is left out.
func TestBuildLimit(t *testing.T) {
	for _, c := range []struct {
		opt   edns.Opt
		limit int
	}{
		{edns.Opt{}, 512},
		{edns.Opt{Size: 1000}, 512},
		{edns.Opt{Has: true}, 512},
		{edns.Opt{Has: true, Size: -1}, 512},
		{edns.Opt{Has: true, Size: 511}, 512},
		{edns.Opt{Has: true, Size: 512}, 512},
		{edns.Opt{Has: true, Size: 513}, 513},
		{edns.Opt{Has: true, Size: 1232}, 1232},
		{edns.Opt{Has: true, Size: 4095}, 4095},
		{edns.Opt{Has: true, Size: 4096}, 4096},
		{edns.Opt{Has: true, Size: 4097}, 4096},
		{edns.Opt{Has: true, Size: 65535}, 4096},
	} {
		a := Ask{ID: 9, Q: asked, Opt: c.opt}
		room := c.limit - 12 - len(question)
		if c.opt.Has {
			room -= 11
		}
		fits(t, a, room)
	}
}

// fits checks what is told where there is so much room for pieces.
func fits(t *testing.T, a Ask, room int) {
	t.Helper()
	empty := len(Build(a, chain.Chain{}, 0))
	for over := -3; over <= 3; over++ {
		for _, end := range []int{chain.Found, chain.NoData, chain.Nothing} {
			for ahead := range 4 {
				small := 14 + ahead
				hits := slices.Repeat([]chain.Hit{filled(small)}, ahead)
				last := filled(room - ahead*small + over)
				c := chain.Chain{Hits: hits, End: end, Soa: last}
				if end == chain.Found {
					c.Hits = append(c.Hits, last)
				}
				size, tc, left := empty+room+over, 0, 1
				if over > 0 {
					size, tc, left = empty+ahead*small, 1, 0
				}
				s := Build(a, c, ahead)
				m, e := msg.Decode(s)
				if e != api.OK || len(s) != size || m.Bits>>9&1 != tc || len(m.An)+len(m.Ns) != ahead+left || (len(m.Ns) == 1) != (over <= 0 && end != chain.Found) {
					t.Errorf("room %d, over %d, End %d, %d ahead: %d bytes, want %d; %#x, %d, %d", room, over, end, ahead, len(s), size, m.Bits, len(m.An), len(m.Ns))
				}
			}
		}
	}
}

// P17.3: pieces are left out from the last one on: one that would fit goes with one ahead of it that does not, but what has no records says nothing by itself.
func TestBuildLeavesOut(t *testing.T) {
	a := Ask{ID: 9, Q: asked}
	nothing := chain.Hit{}
	for i, c := range []struct {
		hits []chain.Hit
		end  int
		soa  chain.Hit
		bits int
		an   []int
		ns   int
	}{
		{[]chain.Hit{filled(100), filled(101), filled(102)}, chain.Nothing, filled(103), 0x8083, []int{100, 101, 102}, 103},
		{[]chain.Hit{filled(600), filled(101), filled(102)}, chain.Nothing, filled(103), 0x8283, nil, 0},
		{[]chain.Hit{filled(100), filled(600), filled(102)}, chain.Nothing, filled(103), 0x8283, []int{100}, 0},
		{[]chain.Hit{filled(100), filled(101), filled(600)}, chain.NoData, filled(103), 0x8280, []int{100, 101}, 0},
		{[]chain.Hit{filled(100), filled(101), filled(102)}, chain.NoData, filled(600), 0x8280, []int{100, 101, 102}, 0},
		{[]chain.Hit{filled(100), filled(101), filled(102)}, chain.Found, filled(600), 0x8080, []int{100, 101, 102}, 0},
		{[]chain.Hit{filled(600)}, chain.Found, nothing, 0x8280, nil, 0},
		{nil, chain.NoData, filled(600), 0x8280, nil, 0},
		{[]chain.Hit{nothing, filled(600)}, chain.Found, nothing, 0x8280, nil, 0},
		{[]chain.Hit{filled(600), nothing}, chain.Nothing, nothing, 0x8283, nil, 0},
		{[]chain.Hit{filled(100), nothing, nothing}, chain.NoData, nothing, 0x8080, []int{100}, 0},
		{[]chain.Hit{nothing, filled(100), nothing, filled(500), nothing}, chain.NoData, filled(12), 0x8280, []int{100}, 0},
		{[]chain.Hit{filled(60000), filled(60000)}, chain.NoData, filled(60000), 0x8280, nil, 0},
		{[]chain.Hit{filled(400), filled(60000), filled(60000)}, chain.Nothing, filled(12), 0x8283, []int{400}, 0},
		{[]chain.Hit{addresses(40)}, chain.Found, nothing, 0x8280, nil, 0},
		{[]chain.Hit{filled(100), addresses(40)}, chain.Found, nothing, 0x8280, []int{100}, 0},
	} {
		m, e := msg.Decode(Build(a, chain.Chain{Hits: c.hits, End: c.end, Soa: c.soa}, 0))
		if e != api.OK || m.Bits != c.bits || !slices.Equal(sizes(m.An), c.an) {
			t.Errorf("case %d: %d, %#x, %v", i, e, m.Bits, sizes(m.An))
		}
		if c.ns == 0 && len(m.Ns) != 0 || c.ns != 0 && !slices.Equal(sizes(m.Ns), []int{c.ns}) {
			t.Errorf("case %d: %v", i, sizes(m.Ns))
		}
	}
}

// sizes are how many bytes records have, that point to the question.
func sizes(l []api.RR) []int {
	var all []int
	for _, r := range l {
		all = append(all, 12+len(r.Data))
	}
	return all
}

// P17.3: a list of 65535 records may be in a message, though it is too long; of more there is none, whatever could be left out.
func TestBuildMostRecords(t *testing.T) {
	a := Ask{ID: 9, Q: asked, Opt: edns.Opt{Has: true, Size: 4096}}
	small := filled(20)
	soaBytes := root + tail(6, 1, 3, soa(3).Set.Datas[0]) + root + tail(6, 1, 3, soa(3).Set.Datas[1])
	whole := "\xc0\x0c" + tail(99, 1, 1, "xxxxxxxx")
	cut := numbers(9, 0x8280, 1, 1, 0, 1) + question + whole + optBytes(4096, 0, 0, 0)
	none := numbers(9, 0x8283, 1, 0, 0, 1) + question + optBytes(4096, 0, 0, 0)
	for i, c := range []struct {
		c    chain.Chain
		want string
	}{
		{chain.Chain{Hits: []chain.Hit{small, addresses(65534)}}, cut},
		{chain.Chain{Hits: []chain.Hit{small, addresses(65534)}, End: chain.NoData, Soa: addresses(65535)}, cut},
		{chain.Chain{Hits: []chain.Hit{small, addresses(65535)}}, ""},
		{chain.Chain{Hits: []chain.Hit{small, addresses(65536)}}, ""},
		{chain.Chain{Hits: []chain.Hit{small, addresses(40000), addresses(40000)}}, ""},
		{chain.Chain{Hits: []chain.Hit{addresses(65535)}, End: chain.Nothing, Soa: soa(3)}, none},
		{chain.Chain{Hits: []chain.Hit{addresses(65536)}, End: chain.Nothing, Soa: soa(3)}, ""},
		{chain.Chain{End: chain.Nothing, Soa: addresses(65536)}, ""},
		{chain.Chain{Hits: []chain.Hit{addresses(65536)}, End: chain.Missing}, numbers(9, 0x8082, 1, 0, 0, 1) + question + optBytes(4096, 0, 0, 0)},
		{chain.Chain{Hits: []chain.Hit{small}, End: chain.NoData, Soa: soa(3)}, numbers(9, 0x8080, 1, 1, 2, 1) + question + whole + soaBytes + optBytes(4096, 0, 0, 0)},
	} {
		if got := Build(a, c.c, 0); got != c.want {
			t.Errorf("case %d: %d bytes, %.200q", i, len(got), got)
		}
	}
}

// R1: many pieces are left out in good time.
func TestBuildManyPieces(t *testing.T) {
	c := chain.Chain{Hits: slices.Repeat([]chain.Hit{filled(12), {}}, 65535)}
	m, e := msg.Decode(Build(Ask{ID: 9, Q: asked}, c, 0))
	if e != api.OK || m.Bits != 0x8280 || len(m.An) != (512-12-len(question))/12 {
		t.Errorf("%d, %#x, %d records", e, m.Bits, len(m.An))
	}
}

// R5: what is handed in is not changed, and the same again is the same.
func TestBuildChangesNothing(t *testing.T) {
	c := chain.Chain{Hits: []chain.Hit{addresses(20), filled(100), addresses(40)}, End: chain.NoData, Soa: soa(9)}
	before := fmt.Sprint(c)
	for turn := range 5 {
		a := Ask{ID: turn, Q: asked}
		s := Build(a, c, turn)
		if again := Build(a, c, turn); again != s || fmt.Sprint(c) != before {
			t.Errorf("turn %d: changed", turn)
		}
	}
}

// slow builds by leaving out one piece after the other, record by record.
func slow(a Ask, c chain.Chain, turn int) string {
	limit := 512
	if a.Opt.Has {
		limit = min(max(a.Opt.Size, 512), 4096)
	}
	all := c.Hits
	if c.End != 0 {
		all = append(slices.Clone(all), c.Soa)
	}
	for kept := len(all); ; kept-- {
		m := api.Msg{ID: a.ID, Bits: 0x8080 | a.Bits&0x7910, Qs: []api.Question{a.Q}}
		if c.End == 2 {
			m.Bits |= 3
		}
		if kept < len(all) {
			m.Bits |= 0x0200
		}
		for i, h := range all[:kept] {
			for k := range h.Set.Datas {
				r := api.RR{Name: h.Set.Key.Name, Type: h.Set.Key.Type, Class: h.Set.Key.Class, TTL: h.Left}
				if i < len(c.Hits) {
					r.Data = h.Set.Datas[(turn+k)%len(h.Set.Datas)]
					m.An = append(m.An, r)
				} else {
					r.Data = h.Set.Datas[k]
					m.Ns = append(m.Ns, r)
				}
			}
		}
		if a.Opt.Has {
			r := api.RR{Name: root, Type: 41, Class: 4096}
			if a.Opt.Do {
				r.TTL = 32768
			}
			m.Ar = append(m.Ar, r)
		}
		if s, e := msg.Encode(m); e == api.OK && len(s) <= limit {
			return s
		}
	}
}

// drawn is a chain of hits of all sizes.
func drawn(draw *rand.Rand) chain.Chain {
	names := []string{root, "\x01a\x00", "\x01b\x00", "\x01a\x01b\x00", "\x01c\x01a\x01b\x00", strings.ToLower(most)}
	c := chain.Chain{End: draw.Intn(3)}
	next := func() chain.Hit {
		name, left := names[draw.Intn(len(names))], draw.Intn(week)
		switch draw.Intn(3) {
		case 0:
			return hit(name, api.CNAME, left, names[draw.Intn(len(names))])
		case 1:
			h := addresses(1 + draw.Intn(50))
			h.Set.Key.Name = name
			return h
		}
		return hit(name, 99, left, strings.Repeat("x", draw.Intn(700)), "y")
	}
	for range draw.Intn(6) {
		c.Hits = append(c.Hits, next())
	}
	if c.End != 0 {
		c.Soa = next()
	}
	return c
}

// P17.3, P17.4: answers that are drawn are decoded, to the question that was asked, byte by byte, and have no more bytes than may be.
func TestDrawn(t *testing.T) {
	draw := rand.New(rand.NewSource(17))
	cut, whole := 0, 0
	for range 4000 {
		a := Ask{ID: draw.Intn(65536), Bits: draw.Intn(65536), Q: api.Question{Name: []string{"\x01A\x01b\x00", "\x01B\x00", root, most}[draw.Intn(4)], Type: draw.Intn(65536), Class: draw.Intn(65536)}}
		if draw.Intn(2) == 0 {
			a.Opt = edns.Opt{Has: true, Size: draw.Intn(5000), Ext: draw.Intn(128), Vers: draw.Intn(256), Do: draw.Intn(2) == 0}
		}
		c, turn := drawn(draw), draw.Intn(100)
		s := Build(a, c, turn)
		if want := slow(a, c, turn); s != want {
			t.Fatalf("Build of %s, %.300q, %d:\n%.600q, want\n%.600q", text(a), fmt.Sprint(c), turn, s, want)
		}
		m, e := msg.Decode(s)
		if e != api.OK || m.ID != a.ID || !slices.Equal(m.Qs, []api.Question{a.Q}) || len(s) > a.Opt.Limit() {
			t.Fatalf("%d, %d, %v, %d bytes", e, m.ID, m.Qs, len(s))
		}
		if m.Bits&0x0200 != 0 {
			cut++
		} else {
			whole++
		}
	}
	if min(cut, whole) < 500 {
		t.Errorf("%d cut, %d whole: too few", cut, whole)
	}
}

// P17.4: whatever bytes are asked, a refusal is decoded, to the question that was asked.
func TestDrawnBytes(t *testing.T) {
	draw := rand.New(rand.NewSource(4))
	good := numbers(0x1234, 0x0100, 1, 1, 0, 1) + question + "\xc0\x0c" + tail(1, 1, 9, "1111") + optBytes(1232, 0, 0, 0)
	kinds := make([]int, 3)
	for range 100000 {
		b := []byte(good)
		for range draw.Intn(4) {
			b[draw.Intn(len(b))] = byte(draw.Intn(256) >> draw.Intn(8))
		}
		a, kind, code := Read(string(b[:len(b)-draw.Intn(30)/28]))
		kinds[kind]++
		if (kind == Bad) != (code != 0) || kind == Drop && a != (Ask{}) {
			t.Fatalf("%q: %s, %d, %d", b, text(a), kind, code)
		}
		m, e := msg.Decode(Refuse(a, code))
		o, f := edns.Find(m)
		if e != api.OK || f != api.OK || m.ID != a.ID || edns.Code(m.Bits, o) != code && a.Opt.Has || m.Bits&15 != code%16 {
			t.Fatalf("%q: %d, %d, %v", b, e, f, m)
		}
		if a.Q.Name != "" && !slices.Equal(m.Qs, []api.Question{a.Q}) || a.Q.Name == "" && len(m.Qs) != 0 {
			t.Fatalf("%q: %v", b, m.Qs)
		}
	}
	if slices.Min(kinds) < 100 {
		t.Errorf("too few of a kind: %v", kinds)
	}
}

// The chapter's example.
func ExampleRead() {
	_, kind, code := Read("elevenbytes")
	fmt.Println(kind == Drop, code)
	// Output:
	// true 0
}
