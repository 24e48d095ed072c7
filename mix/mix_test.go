package mix

import (
	"fmt"
	"math"
	"strings"
	"testing"

	"wellspring/name"
)

const allBits = 1<<40 - 1

// label lays one label out as a name's bytes.
func label(s string) string { return string([]byte{byte(len(s))}) + s + "\x00" }

// long has as many letters as a name may have: 250, in four labels.
var long = strings.Repeat("\x3f"+strings.Repeat("x", 63), 3) + "\x3d" + strings.Repeat("y", 61) + "\x00"

var notNames = []string{"", "a", "abc", "\x01a", "\x02a\x00", "\x00\x01a\x00", "\x00\x00", "\x40" + strings.Repeat("a", 64) + "\x00", "A" + strings.Repeat("a", 65) + "\x00", "\xc0\x00", "\x01a" + long}

func names() []string {
	all := []string{"\x00", "\x01a\x01b\x00", "\x03wWw\x07ExamplE\x03CoM\x00", "\x05A-b_9\x02\x00\xff\x00", long, strings.ToUpper(long), label("\xc3\x89\xe2\x84\xaa"), label(strings.Repeat("aB", 20)), label(strings.Repeat("1Z", 20)), label(strings.Repeat("Ab", 20) + "A")}
	for c := range 256 {
		all = append(all, label(string([]byte{byte(c)})))
	}
	return all
}

// P3.1: each byte of a label by itself; no label's length counts, nor a byte beside the letters.
func TestLettersOfEveryByte(t *testing.T) {
	const letters = "ABCDEFGHIJKLMNOPQRSTUVWXYZabcdefghijklmnopqrstuvwxyz"
	for c := range 256 {
		b := string([]byte{byte(c)})
		want := strings.Count(letters, b)
		if got := Letters(label(b)); got != want {
			t.Errorf("Letters of the byte %d: %d, not %d", c, got, want)
		}
	}
}

// P3.1
func TestLetters(t *testing.T) {
	for n, want := range map[string]int{"\x00": 0, "\x01a\x01b\x00": 2, "\x03wWw\x07ExamplE\x03CoM\x00": 13, "\x05A-b_9\x02\x00\xff\x00": 2, long: 250, label(strings.Repeat("1", 63)): 0} {
		if got := Letters(n); got != want {
			t.Errorf("Letters(%q): %d, not %d", n, got, want)
		}
	}
}

// P3.1
func TestMix(t *testing.T) {
	for _, c := range []struct {
		n    string
		bits int
		want string
	}{
		{"\x01a\x01b\x00", 2, "\x01a\x01B\x00"},
		{"\x01a\x01b\x00", 1, "\x01A\x01b\x00"},
		{"\x01A\x01B\x00", 0, "\x01a\x01b\x00"},
		{"\x01A\x01b\x00", allBits, "\x01A\x01B\x00"},
		{"\x01A\x01b\x00", allBits - 3, "\x01a\x01b\x00"},
		{"\x05A-b_9\x01C\x00", 5, "\x05A-b_9\x01C\x00"},
		{"\x05A-b_9\x01C\x00", 2, "\x05a-B_9\x01c\x00"},
		{"\x08@AZ[`az{\x00", 0, "\x08@az[`az{\x00"},
		{"\x08@AZ[`az{\x00", 15, "\x08@AZ[`AZ{\x00"},
		{"\x00", 0, "\x00"},
		{"\x00", allBits, "\x00"},
		{label("\xc3\x89\xc3\xa9K"), 0, label("\xc3\x89\xc3\xa9k")},
	} {
		if got := Mix(c.n, c.bits); got != c.want {
			t.Errorf("Mix(%q, %d): %q, not %q", c.n, c.bits, got, c.want)
		}
	}
}

// P3.1: each bit by itself, in a name in which it counts for more than one letter.
func TestMixTurnsRoundAfterForty(t *testing.T) {
	for bit := range 40 {
		want := []byte(strings.ToLower(long))
		for k := bit; k < 250; k += 40 {
			// Behind each 63 letters stands one more label's length.
			at := 1 + k + k/63
			want[at] -= 32
		}
		if got := Mix(long, 1<<bit); got != string(want) {
			t.Errorf("bit %d: %q", bit, got)
		}
	}
	if got := Mix(long, allBits); got != strings.ToUpper(long) {
		t.Errorf("all bits: %q", got)
	}
}

// P3.1: bits out of their bounds.
func TestMixOfWrongBits(t *testing.T) {
	for _, bits := range []int{-1, -2, -1 << 40, math.MinInt, 1 << 40, 1<<40 + 1, 1 << 41, 1 << 62, math.MaxInt} {
		for _, n := range []string{"\x00", "\x01a\x00", long} {
			if got := Mix(n, bits); got != "" {
				t.Errorf("Mix(%q, %d): %q", n, bits, got)
			}
		}
	}
	if got := Mix("\x01a\x00", allBits); got != "\x01A\x00" {
		t.Errorf("the greatest bits: %q", got)
	}
}

// P3.2
func TestBits(t *testing.T) {
	for n, want := range map[string]int{
		"\x00":                               0,
		"\x01a\x01b\x00":                     0,
		"\x01a\x01B\x00":                     2,
		"\x01A\x01b\x00":                     1,
		"\x05A-b_9\x01C\x00":                 5,
		"\x08@AZ[`az{\x00":                   3,
		label(strings.Repeat("a", 39) + "A"): 1 << 39,
		label(strings.Repeat("a", 40) + "A"): 0,
		label(strings.Repeat("A", 40)):       allBits,
		strings.ToUpper(long):                allBits,
		long:                                 0,
	} {
		if got := Bits(n); got != want {
			t.Errorf("Bits(%q): %d, not %d", n, got, want)
		}
	}
}

// P3.1 to P3.3: texts that are no names.
func TestNoNames(t *testing.T) {
	for _, n := range notNames {
		if Letters(n) != 0 || Mix(n, 0) != "" || Mix(n, 1) != "" || Bits(n) != 0 {
			t.Errorf("%q: %d, %q, %d", n, Letters(n), Mix(n, 1), Bits(n))
		}
		if Echoes(n, n) || Echoes(n, "\x00") || Echoes("\x00", n) {
			t.Errorf("%q echoes", n)
		}
	}
}

// P3.3
func TestEchoes(t *testing.T) {
	all := names()
	for i, a := range all {
		for j, b := range all {
			if got := Echoes(a, b); got != (i == j) {
				t.Errorf("Echoes(%q, %q): %v", a, b, got)
			}
		}
	}
	if Echoes("\x01a\x01b\x00", "\x01a\x01B\x00") {
		t.Error("another letter echoes")
	}
}

// P3.4: nothing but letters changes, and letters only in being great or small.
func TestMixKeepsTheName(t *testing.T) {
	for _, n := range names() {
		for _, bits := range []int{0, 1, 2, 0x5555555555, 0xaaaaaaaaaa, 1 << 39, allBits} {
			m := Mix(n, bits)
			if !name.Same(m, n) || Letters(m) != Letters(n) {
				t.Errorf("Mix(%q, %d): %q", n, bits, m)
			}
			if want := bits & (1<<min(40, Letters(n)) - 1); Bits(m) != want {
				t.Errorf("Bits(Mix(%q, %d)): %d, not %d", n, bits, Bits(m), want)
			}
		}
	}
}

// P3.4: up to 40 letters the bits are the whole of what is great; beyond, they are not.
func TestMixOfOwnBits(t *testing.T) {
	short := 0
	for _, n := range names() {
		if Letters(n) > 40 {
			continue
		}
		short++
		if got := Mix(n, Bits(n)); got != n {
			t.Errorf("%q: %q", n, got)
		}
	}
	if short < 260 {
		t.Errorf("only %d names are that short", short)
	}
	n := label(strings.Repeat("a", 40) + "A")
	if got := Mix(n, Bits(n)); got != strings.ToLower(n) {
		t.Errorf("41 letters: %q", got)
	}
}

func ExampleMix() {
	fmt.Println(name.Text(Mix("\x01a\x01b\x00", 2)))
	// Output: a.B
}
