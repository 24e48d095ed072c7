package query

import (
	"fmt"
	"math"
	"math/rand"
	"slices"
	"strings"
	"testing"

	"wellspring/api"
	"wellspring/mix"
	"wellspring/msg"
)

const root = "\x00"

// most is a name of 255 bytes, as many as a name may have.
var most = strings.Repeat("\x3f"+strings.Repeat("x", 63), 3) + "\x3d" + strings.Repeat("Y", 61) + root

const (
	four    = "\x0a\x00\x00\x01"
	sixteen = "0123456789abcdef"
)

// good is one that may be, with letters of both kinds.
var good = Out{ID: 0x1234, Port: 5300, Server: four, Q: api.Question{Name: "\x03aBc\x01D\x00", Type: api.MX, Class: 1}, Due: 5, Task: 2}

// numbers lays numbers out in two bytes each.
func numbers(all ...int) string {
	s := ""
	for _, n := range all {
		s += string([]byte{byte(n >> 8), byte(n)})
	}
	return s
}

// questionOf is what o asks, as bytes.
func questionOf(o Out) string { return o.Q.Name + numbers(o.Q.Type, o.Q.Class) }

// optBytes are those of the OPT record that is sent: 1232 is 0x04d0.
const optBytes = "\x00\x00\x29\x04\xd0\x00\x00\x00\x00\x00\x00"

// changed is good, but for what change does.
func changed(change func(o *Out)) Out {
	o := good
	change(&o)
	return o
}

// canBe checks both that tell whether o may be.
func canBe(t *testing.T, o Out, want bool) {
	t.Helper()
	if got := o.Check(); got != want {
		t.Errorf("Check of %.200q: %v", fmt.Sprint(o), got)
	}
	bytes := ""
	if want {
		bytes = numbers(o.ID, 0, 1, 0, 0, 1) + questionOf(o) + optBytes
	}
	if got := o.Bytes(); got != bytes {
		t.Errorf("Bytes of %.200q:\n%q, want\n%q", fmt.Sprint(o), got, bytes)
	}
}

// P20.1: each number from the least to the most, and beyond; Due and Task may be any.
func TestCheckNumbers(t *testing.T) {
	for _, n := range []int{math.MinInt, -65536, -1, 0, 1, 255, 256, 65534, 65535, 65536, 65537, 1 << 32, math.MaxInt} {
		want := 0 <= n && n <= 65535
		canBe(t, changed(func(o *Out) { o.ID = n }), want)
		canBe(t, changed(func(o *Out) { o.Port = n }), want)
		canBe(t, changed(func(o *Out) { o.Q.Type = n }), want)
		canBe(t, changed(func(o *Out) { o.Q.Class = n }), want)
		canBe(t, changed(func(o *Out) { o.Due, o.Task = n, -n }), true)
	}
	canBe(t, Out{}, false)
	canBe(t, Out{Server: four, Q: api.Question{Name: root}}, true)
}

// P20.1: an address has 4 bytes or 16, whichever they are.
func TestCheckServers(t *testing.T) {
	for size := range 40 {
		for _, c := range []string{"\x00", "x", "\xff"} {
			canBe(t, changed(func(o *Out) { o.Server = strings.Repeat(c, size) }), size == 4 || size == 16)
		}
	}
}

// P20.1: names as they are asked, letter by letter.
func TestCheckNames(t *testing.T) {
	for n, want := range map[string]bool{root: true, "\x01a\x00": true, "\x01A\x00": true, "\x02\x00.\x00": true, most: true, strings.ToUpper(most): true, "": false, "a": false, "\x01a": false, "\x01a\x00\x00": false, "\x01a" + most: false, "\xc0\x0c": false, "\x40" + strings.Repeat("x", 64) + root: false} {
		canBe(t, changed(func(o *Out) { o.Q.Name = n }), want)
	}
}

// match checks what Match tells, and that it changes nothing.
func match(t *testing.T, l []Out, server string, port int, s string, at int, e api.Errno) {
	t.Helper()
	before := slices.Clone(l)
	k, m, f := Match(l, server, port, s)
	want := api.Msg{}
	if e == api.OK {
		want, _ = msg.Decode(s)
	}
	if k != at || f != e || !msg.Same(m, want) {
		t.Errorf("Match of %.300q from %q to %d: %d, %d, %.200q, want %d, %d", s, server, port, k, f, fmt.Sprint(m), at, e)
	}
	if !slices.Equal(l, before) {
		t.Errorf("Match changed its list: %v", l)
	}
}

// answer is one to good, without records.
func answer(bits int) string { return numbers(0x1234, bits, 1, 0, 0, 0) + questionOf(good) }

// P20.2: bytes that are no answer, whoever is asked; of them nothing is matched.
func TestMatchForm(t *testing.T) {
	q := questionOf(good)
	// One that may not be, and asks nothing, is nobody's either.
	l := []Out{good, {}, changed(func(o *Out) { o.Q = api.Question{} })}
	for _, s := range []string{
		"",
		"junk",
		answer(0x8000)[:11],
		numbers(0x1234, 0x8000, 0, 0, 0, 0),
		numbers(0x1234, 0x8000, 0, 0, 0, 0) + q,
		numbers(0x1234, 0x8000, 1, 0, 0, 0),
		numbers(0x1234, 0x8000, 2, 0, 0, 0) + q,
		numbers(0x1234, 0x8000, 2, 0, 0, 0) + q + q,
		numbers(0x1234, 0x8000, 3, 0, 0, 0) + q + q + q,
		numbers(0x1234, 0x8000, 0, 1, 0, 0) + root + numbers(1, 1, 0, 5, 4) + "1111",
		numbers(0x1234, 0x8000, 1, 1, 0, 0) + q,
		numbers(0x1234, 0x8000, 1, 1, 0, 0) + q + root + numbers(1, 1, 0, 5, 3) + "111",
		numbers(0x1234, 0x8000, 1, 0, 0, 0) + q + root,
		answer(0x8000)[:len(answer(0x8000))-1],
		numbers(0x1234, 0x8000, 1, 0, 0, 0) + q + strings.Repeat("x", 70000),
		good.Bytes(),
		answer(0),
		answer(0x7fff),
		answer(0x0180),
	} {
		match(t, l, four, 5300, s, -1, api.ErrForm)
		match(t, nil, four, 5300, s, -1, api.ErrForm)
		match(t, l, "", -1, s, -1, api.ErrForm)
	}
	for opcode := 1; opcode < 16; opcode++ {
		for _, others := range []int{0x8000, 0x8180, 0x87ff} {
			match(t, l, four, 5300, answer(others|opcode<<11), -1, api.ErrForm)
		}
	}
}

// P20.2: what is an answer: all that the header and the records say beside is told, and hinders nothing.
func TestMatch(t *testing.T) {
	l := []Out{good}
	for _, bits := range []int{0x8000, 0x8180, 0x8400, 0x8703, 0x87ff} {
		match(t, l, four, 5300, answer(bits), 0, api.OK)
	}
	a := "\xc0\x0c" + numbers(1, 1, 0, 5, 4) + "1111"
	for _, n := range [][3]int{{1, 0, 0}, {2, 0, 0}, {0, 1, 0}, {0, 0, 1}, {3, 2, 1}} {
		s := numbers(0x1234, 0x8000, 1, n[0], n[1], n[2]) + questionOf(good) + strings.Repeat(a, n[0]+n[1]+n[2])
		match(t, l, four, 5300, s, 0, api.OK)
	}
	for _, n := range []int{0, 65535} {
		o := Out{ID: n, Port: n, Server: sixteen, Q: api.Question{Name: most, Type: n, Class: n}}
		s := numbers(n, 0x8000, 1, 0, 0, 0) + questionOf(o)
		match(t, []Out{good, o}, sixteen, n, s, 1, api.OK)
	}
	match(t, nil, four, 5300, answer(0x8000), -1, api.ErrMatch)
	match(t, []Out{}, four, 5300, answer(0x8000), -1, api.ErrMatch)
}

// P20.2: the first one of several; those that may not be are nobody's.
func TestMatchFirst(t *testing.T) {
	s := answer(0x8000)
	late := changed(func(o *Out) { o.Due, o.Task = -5, 7 })
	other := changed(func(o *Out) { o.ID++ })
	match(t, []Out{good, late}, four, 5300, s, 0, api.OK)
	match(t, []Out{other, late, good}, four, 5300, s, 1, api.OK)
	match(t, []Out{other, other, {}, good, good}, four, 5300, s, 3, api.OK)
	for _, server := range []string{"", "1", "12345", sixteen + "0"} {
		bad := changed(func(o *Out) { o.Server = server })
		match(t, []Out{bad}, server, 5300, s, -1, api.ErrMatch)
		match(t, []Out{bad, good}, four, 5300, s, 1, api.OK)
	}
	for _, port := range []int{-1, 65536, math.MinInt, math.MaxInt} {
		bad := changed(func(o *Out) { o.Port = port })
		match(t, []Out{bad}, four, port, s, -1, api.ErrMatch)
	}
	match(t, []Out{{}}, "", 0, numbers(0, 0x8000, 1, 0, 0, 0)+root+numbers(0, 0), -1, api.ErrMatch)
}

// P20.4: one bit of where it comes from, of its number or of its question is another, and it is forged.
func TestForged(t *testing.T) {
	for _, server := range []string{four, sixteen} {
		o := changed(func(o *Out) { o.Server = server })
		s := answer(0x8180)
		match(t, []Out{o}, server, 5300, s, 0, api.OK)
		for i := range len(server) * 8 {
			b := []byte(server)
			b[i/8] ^= 1 << (i % 8)
			match(t, []Out{o}, string(b), 5300, s, -1, api.ErrMatch)
		}
		for i := range 17 {
			match(t, []Out{o}, server, 5300^1<<i, s, -1, api.ErrMatch)
		}
		for _, port := range []int{-5300, 5300 + 65536, math.MinInt, math.MaxInt} {
			match(t, []Out{o}, server, port, s, -1, api.ErrMatch)
		}
		for _, other := range []string{"", server[:len(server)-1], server + "\x00", server + server} {
			match(t, []Out{o}, other, 5300, s, -1, api.ErrMatch)
		}
	}
	// Bytes 0 and 1 are the number, those from 12 on the question.
	s := answer(0x8180)
	for i := range len(s) * 8 {
		if at := i / 8; at > 1 && at < 12 {
			continue
		}
		b := []byte(s)
		b[i/8] ^= 1 << (i % 8)
		if k, m, e := Match([]Out{good}, four, 5300, string(b)); k != -1 || e == api.OK || !msg.Same(m, api.Msg{}) {
			t.Errorf("bit %d: %d, %d", i, k, e)
		}
	}
	for bits := range 16 {
		n := mix.Mix(good.Q.Name, bits)
		if n == good.Q.Name {
			continue
		}
		match(t, []Out{good}, four, 5300, numbers(0x1234, 0x8180, 1, 0, 0, 0)+n+numbers(15, 1), -1, api.ErrMatch)
	}
}

// P20.2: drawn questions, of few names, numbers and places: what is told is told by each of them apart.
func TestMatchDrawn(t *testing.T) {
	draw := rand.New(rand.NewSource(20))
	names := []string{root, "\x01a\x00", "\x01A\x00", "\x01b\x00", "bad"}
	next := func() Out {
		o := Out{ID: draw.Intn(2), Port: draw.Intn(2), Server: []string{four, sixteen, "bad"}[draw.Intn(3)], Due: draw.Intn(9), Task: draw.Intn(9)}
		o.Q = api.Question{Name: names[draw.Intn(len(names))], Type: draw.Intn(2), Class: draw.Intn(2)}
		return o
	}
	matched, none := 0, 0
	for range 20000 {
		var l []Out
		for range draw.Intn(100) {
			l = append(l, next())
		}
		came := next()
		if came.Q.Name == "bad" {
			continue
		}
		want := -1
		for i := len(l) - 1; i >= 0; i-- {
			if l[i].ID == came.ID && l[i].Port == came.Port && l[i].Server == came.Server && l[i].Q == came.Q && came.Server != "bad" {
				want = i
			}
		}
		e := api.OK
		if matched++; want < 0 {
			e, matched, none = api.ErrMatch, matched-1, none+1
		}
		match(t, l, came.Server, came.Port, numbers(came.ID, 0x8000, 1, 0, 0, 0)+questionOf(came), want, e)
		if t.Failed() {
			return
		}
	}
	if min(matched, none) < 1000 {
		t.Errorf("%d matched, %d not: too few", matched, none)
	}
}

// P20.3: places, rising; those that may not be count, too.
func TestLate(t *testing.T) {
	dues := []int{5, math.MaxInt, 4, 6, 5, -1, math.MinInt, 0}
	var l []Out
	for i, due := range dues {
		o := changed(func(o *Out) { o.Due = due })
		if i%2 == 0 {
			o = Out{Due: due}
		}
		l = append(l, o)
	}
	before := slices.Clone(l)
	for now, want := range map[int][]int{
		math.MinInt: {6},
		-2:          {6},
		-1:          {5, 6},
		0:           {5, 6, 7},
		3:           {5, 6, 7},
		4:           {2, 5, 6, 7},
		5:           {0, 2, 4, 5, 6, 7},
		6:           {0, 2, 3, 4, 5, 6, 7},
		math.MaxInt: {0, 1, 2, 3, 4, 5, 6, 7},
	} {
		if got := Late(l, now); !slices.Equal(got, want) {
			t.Errorf("Late at %d: %v, want %v", now, got, want)
		}
	}
	for _, none := range [][]Out{nil, {}, {good, good}} {
		if got := Late(none, 4); len(got) != 0 {
			t.Errorf("Late of %v: %v", none, got)
		}
	}
	if !slices.Equal(l, before) {
		t.Errorf("Late changed its list: %v", l)
	}
}

// P20.3: of another task, in order; R5: the list that is handed in stays as it is.
func TestWithout(t *testing.T) {
	var l []Out
	for i, task := range []int{1, 2, 1, 0, math.MinInt, 2, 2, math.MaxInt, 1} {
		o := Out{ID: i, Task: task}
		if i%2 == 0 {
			o = changed(func(o *Out) { o.ID, o.Task = i, task })
		}
		l = append(l, o)
	}
	before := slices.Clone(l)
	for task, want := range map[int][]int{0: {0, 1, 2, 4, 5, 6, 7, 8}, 1: {1, 3, 4, 5, 6, 7}, 2: {0, 2, 3, 4, 7, 8}, 3: {0, 1, 2, 3, 4, 5, 6, 7, 8}, -1: {0, 1, 2, 3, 4, 5, 6, 7, 8}, math.MinInt: {0, 1, 2, 3, 5, 6, 7, 8}, math.MaxInt: {0, 1, 2, 3, 4, 5, 6, 8}} {
		got := Without(l, task)
		var kept []Out
		for _, i := range want {
			kept = append(kept, before[i])
		}
		if !slices.Equal(got, kept) {
			t.Errorf("Without %d: %v, want %v", task, got, kept)
		}
		if !slices.Equal(l, before) {
			t.Fatalf("Without changed its list: %v", l)
		}
		// What is answered is the caller's own: what he does to it is not done to the list.
		for i := range got {
			got[i] = Out{}
		}
		_ = append(got, good)
		if !slices.Equal(l, before) {
			t.Fatalf("Without hands out its list: %v", l)
		}
	}
	for _, none := range [][]Out{nil, {}, {good}, {good, good, good}} {
		if got := Without(none, 2); len(got) != 0 {
			t.Errorf("Without of %v: %v", none, got)
		}
	}
}

// The chapter's example.
func ExampleMatch() {
	at, _, e := Match([]Out{good}, four, 5300, good.Bytes())
	fmt.Println(at, e == api.ErrForm)
	// Output:
	// -1 true
}
