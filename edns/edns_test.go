package edns

import (
	"fmt"
	"math"
	"slices"
	"testing"

	"wellspring/api"
	"wellspring/flag"
	"wellspring/msg"
)

var (
	sizes = []int{0, 1, 100, 255, 256, 511, 512, 513, 1232, 4095, 4096, 4097, 32767, 32768, 65534, 65535}
	bytes = []int{0, 1, 2, 16, 64, 126, 127, 128, 129, 254, 255}
)

func opt(class int, ttl int) api.RR {
	return api.RR{Name: "\x00", Type: api.OPT, Class: class, TTL: ttl}
}

func other(kind int) api.RR {
	return api.RR{Name: "\x00", Type: kind, Class: 1, TTL: 0x01028000, Data: "abcd"}
}

func finds(t *testing.T, m api.Msg, want Opt, e api.Errno) {
	t.Helper()
	if o, got := Find(m); o != want || got != e {
		t.Errorf("Find(%.200q) = %v, %d, want %v, %d", fmt.Sprint(m), o, got, want, e)
	}
}

// P9.1: each byte of a time, and bits that are nobody's.
func TestFindReadsAll(t *testing.T) {
	for _, size := range sizes {
		for _, ext := range bytes {
			for _, vers := range bytes {
				for _, low := range []int{0, 1, 0x4000, 0x7fff, 0x8000, 0x8001, 0xc000, 0xffff} {
					r := opt(size, ext*16777216+vers*65536+low)
					finds(t, api.Msg{Ar: []api.RR{r}}, Opt{true, size, ext, vers, low >= 32768}, api.OK)
				}
			}
		}
	}
}

// P9.1: the record is found wherever it stands in Ar, whatever data it has.
func TestFindAmongOthers(t *testing.T) {
	r := opt(1232, 0x00008000)
	r.Data = "\x00\x0a\x00\x00"
	want := Opt{Has: true, Size: 1232, Do: true}
	for place := range 4 {
		l := slices.Insert([]api.RR{other(api.A), other(40), other(42)}, place, r)
		m := api.Msg{ID: 7, Bits: 0x8180, Qs: []api.Question{{Name: "\x00", Type: api.OPT, Class: 1}}, An: []api.RR{other(api.A)}, Ns: []api.RR{other(api.NS)}, Ar: l}
		before := fmt.Sprint(m)
		finds(t, m, want, api.OK)
		if after := fmt.Sprint(m); after != before {
			t.Errorf("Find changed the message: %q, was %q", after, before)
		}
	}
}

// P9.1: a message that has none in any list.
func TestFindNone(t *testing.T) {
	finds(t, api.Msg{}, Opt{}, api.OK)
	finds(t, api.Msg{An: []api.RR{}, Ns: []api.RR{}, Ar: []api.RR{}}, Opt{}, api.OK)
	for _, kind := range []int{math.MinInt, -41, 0, api.A, 40, 42, 41 + 65536, math.MaxInt} {
		l := []api.RR{other(kind), {Name: "a", Type: kind, Class: -1, TTL: -1}}
		finds(t, api.Msg{An: l, Ns: l, Ar: l}, Opt{}, api.OK)
	}
	finds(t, api.Msg{Qs: []api.Question{{Name: "\x00", Type: api.OPT, Class: 1}}}, Opt{}, api.OK)
}

// P9.1: one in another list, or more than one.
func TestFindMisplaced(t *testing.T) {
	one := []api.RR{opt(1232, 0)}
	behind := []api.RR{other(api.A), opt(1232, 0)}
	for _, m := range []api.Msg{
		{An: one},
		{An: behind},
		{Ns: one},
		{Ns: behind},
		{An: one, Ns: one},
		{An: one, Ar: one},
		{Ns: behind, Ar: one},
		{An: one, Ns: one, Ar: one},
		{Ar: []api.RR{opt(1232, 0), opt(1232, 0)}},
		{Ar: []api.RR{opt(1232, 0), opt(512, 1)}},
		{Ar: []api.RR{opt(1232, 0), other(api.A), opt(1232, 0)}},
		{Ar: []api.RR{opt(1232, 0), {Name: "\x01a\x00", Type: api.OPT}}},
		{Ar: []api.RR{opt(1232, 0), opt(-1, 0)}},
		{Ar: []api.RR{opt(1232, 0), opt(1232, 0), opt(1232, 0)}},
	} {
		finds(t, m, Opt{}, api.ErrForm)
	}
}

// P9.1: a name, a class and a time that may not be.
func TestFindBad(t *testing.T) {
	for _, n := range []string{"", "a", "\x01a\x00", "\x00\x00", ".", "\xc0\x0c"} {
		r := opt(1232, 0)
		r.Name = n
		finds(t, api.Msg{Ar: []api.RR{r}}, Opt{}, api.ErrForm)
	}
	for _, class := range []int{math.MinInt, -65536, -1, 65536, 1 << 32, math.MaxInt} {
		finds(t, api.Msg{Ar: []api.RR{opt(class, 0)}}, Opt{}, api.ErrForm)
	}
	for _, ttl := range []int{math.MinInt, -1 << 32, -1, 1 << 32, 1<<32 + 1, math.MaxInt} {
		finds(t, api.Msg{Ar: []api.RR{opt(1232, ttl)}}, Opt{}, api.ErrForm)
	}
	finds(t, api.Msg{Ar: []api.RR{opt(65535, 1<<32-1)}}, Opt{true, 65535, 255, 255, true}, api.OK)
}

func tells(t *testing.T, o Opt, want api.RR, is bool) {
	t.Helper()
	if r, got := o.Record(); r != want || got != is {
		t.Errorf("%v.Record() = %v, %v, want %v, %v", o, r, got, want, is)
	}
}

// P9.2: each value that each part can have.
func TestRecord(t *testing.T) {
	for _, size := range sizes {
		for ext := range 128 {
			for vers := range 256 {
				ttl := ext*16777216 + vers*65536
				tells(t, Opt{true, size, ext, vers, false}, opt(size, ttl), true)
				tells(t, Opt{true, size, ext, vers, true}, opt(size, ttl+32768), true)
			}
		}
	}
}

// P9.2
func TestRecordOfNothing(t *testing.T) {
	good := Opt{true, 1232, 1, 2, true}
	for _, o := range []Opt{{}, {Size: 1232}, {Ext: 1}, {Vers: 1}, {Do: true}, {false, 1232, 1, 2, true}} {
		tells(t, o, api.RR{}, false)
	}
	for _, size := range []int{math.MinInt, -1, 65536, 1 << 32, math.MaxInt} {
		o := good
		o.Size = size
		tells(t, o, api.RR{}, false)
	}
	for _, ext := range []int{math.MinInt, -1, 128, 129, 255, 256, 1 << 40, math.MaxInt} {
		o := good
		o.Ext = ext
		tells(t, o, api.RR{}, false)
	}
	for _, vers := range []int{math.MinInt, -1, 256, 257, 1 << 40, math.MaxInt} {
		o := good
		o.Vers = vers
		tells(t, o, api.RR{}, false)
	}
}

// P9.3
func TestLimit(t *testing.T) {
	for _, c := range [][2]int{
		{math.MinInt, 512}, {-1, 512}, {0, 512}, {100, 512}, {511, 512}, {512, 512}, {513, 513}, {1232, 1232},
		{4095, 4095}, {4096, 4096}, {4097, 4096}, {65535, 4096}, {65536, 4096}, {math.MaxInt, 4096},
	} {
		if got := (Opt{Has: true, Size: c[0]}).Limit(); got != c[1] {
			t.Errorf("of size %d: Limit %d, want %d", c[0], got, c[1])
		}
		if got := (Opt{Has: true, Size: c[0], Ext: 3, Vers: 9, Do: true}).Limit(); got != c[1] {
			t.Errorf("of size %d, with all else: Limit %d, want %d", c[0], got, c[1])
		}
		if got := (Opt{Size: c[0], Do: true}).Limit(); got != 512 {
			t.Errorf("of none, but size %d: Limit %d, want 512", c[0], got)
		}
	}
}

// P9.3
func TestCode(t *testing.T) {
	for bits := range 65536 {
		for _, ext := range []int{0, 1, 15, 127, 128, 255} {
			if got := Code(bits, Opt{Has: true, Size: 512, Ext: ext, Vers: 7, Do: true}); got != bits%16+16*ext {
				t.Fatalf("Code(%#x) of Ext %d = %d", bits, ext, got)
			}
			if got := Code(bits, Opt{Size: 512, Ext: ext, Vers: 7, Do: true}); got != bits%16 {
				t.Fatalf("Code(%#x) of none = %d", bits, got)
			}
		}
	}
	if got := Code(0x8180, Opt{Has: true, Ext: 1}); got != api.BadVers {
		t.Errorf("Code = %d, want %d", got, api.BadVers)
	}
}

// P9.3: bits that may not be are no code (flag.Of); parts that no record can tell are counted as they are.
func TestCodeEdges(t *testing.T) {
	for _, bits := range []int{math.MinInt, -1, 65536, 65539, math.MaxInt} {
		if got := Code(bits, Opt{}); got != 0 {
			t.Errorf("Code(%d) of none = %d", bits, got)
		}
		if got := Code(bits, Opt{Has: true, Ext: 2}); got != 32 {
			t.Errorf("Code(%d) of Ext 2 = %d", bits, got)
		}
	}
	for _, ext := range []int{-1, -128, 256, 1 << 40} {
		if got := Code(3, Opt{Has: true, Ext: ext}); got != 3+16*ext {
			t.Errorf("Code(3) of Ext %d = %d", ext, got)
		}
	}
	Code(3, Opt{Has: true, Ext: math.MinInt})
	Code(3, Opt{Has: true, Ext: math.MaxInt})
}

// P9.4: what a record says is found, and so it is behind a message's bytes.
func TestToldIsFound(t *testing.T) {
	for _, size := range sizes {
		for _, ext := range bytes {
			for _, vers := range bytes {
				for _, do := range []bool{false, true} {
					o := Opt{true, size, ext, vers, do}
					r, is := o.Record()
					if is != (ext < 128) {
						t.Fatalf("%v.Record() = %v, %v", o, r, is)
					}
					if !is {
						continue
					}
					m := api.Msg{Bits: 0x8183, Ar: []api.RR{other(api.A), r}}
					finds(t, m, o, api.OK)
					s, e := msg.Encode(m)
					if e != api.OK {
						t.Fatalf("%v: Encode tells %d", o, e)
					}
					again, e := msg.Decode(s)
					if e != api.OK {
						t.Fatalf("%v: Decode tells %d", o, e)
					}
					finds(t, again, o, api.OK)
					if got := Code(again.Bits, o); got != flag.Rcode.Of(0x8183)+16*ext {
						t.Fatalf("%v: Code %d", o, got)
					}
				}
			}
		}
	}
}

func ExampleOpt_Limit() {
	fmt.Println(Opt{Has: true, Size: 100}.Limit())
	// Output: 512
}
