package octet

import (
	"math"
	"testing"
)

func TestPutTellsBytesHighestFirst(t *testing.T) { // P1.1
	for _, c := range []struct {
		n, size int
		want    string
	}{
		{258, 2, "\x01\x02"},
		{0, 1, "\x00"},
		{0, 4, "\x00\x00\x00\x00"},
		{5, 3, "\x00\x00\x05"},
		{0x01020304, 4, "\x01\x02\x03\x04"},
		{0x80, 1, "\x80"},
	} {
		if got := Put(c.n, c.size); got != c.want {
			t.Errorf("Put(%d, %d) = %q, want %q", c.n, c.size, got, c.want)
		}
	}
}

func TestPutEdgesOfEachSize(t *testing.T) { // P1.1
	full := ""
	for size := 1; size <= 4; size++ {
		full += "\xff"
		most := 1<<(8*size) - 1
		if got := Put(most, size); got != full {
			t.Errorf("Put(%d, %d) = %q, want %q", most, size, got, full)
		}
		for _, n := range []int{most + 1, -1, math.MinInt, math.MaxInt} {
			if got := Put(n, size); got != "" {
				t.Errorf("Put(%d, %d) = %q, want nothing", n, size, got)
			}
		}
	}
}

func TestPutRefusesOtherSizes(t *testing.T) { // P1.1
	for _, size := range []int{math.MinInt, -1, 0, 5, 8, 64, math.MaxInt} {
		for _, n := range []int{0, 1, -1, math.MaxInt} {
			if got := Put(n, size); got != "" {
				t.Errorf("Put(%d, %d) = %q, want nothing", n, size, got)
			}
		}
	}
}

func TestTakeTellsEveryPart(t *testing.T) { // P1.2
	const s = "\x00\x01\xff\xc3\xa9z"
	for at := -2; at <= len(s)+2; at++ {
		for size := -2; size <= len(s)+2; size++ {
			want, is := "", at >= 0 && size >= 0 && at+size <= len(s)
			if is {
				want = s[at : at+size]
			}
			if got, ok := Take(s, at, size); got != want || ok != is {
				t.Errorf("Take(s, %d, %d) = %q, %v, want %q, %v", at, size, got, ok, want, is)
			}
		}
	}
}

func TestTakeAndGetAtFarPlaces(t *testing.T) { // P1.2
	far := []int{math.MinInt, math.MinInt + 1, math.MaxInt - 1, math.MaxInt}
	for _, x := range far {
		for _, y := range append([]int{0, 1, 2}, far...) {
			for _, c := range [][2]int{{x, y}, {y, x}} {
				if got, ok := Take("abc", c[0], c[1]); got != "" || ok {
					t.Errorf("Take(abc, %d, %d) = %q, %v", c[0], c[1], got, ok)
				}
				if got, ok := Get("abc", c[0], c[1]); got != 0 || ok {
					t.Errorf("Get(abc, %d, %d) = %d, %v", c[0], c[1], got, ok)
				}
			}
		}
	}
}

func TestGetTellsNumbers(t *testing.T) { // P1.2
	const s = "\x01\x02\xff\x80\x00"
	for _, c := range []struct {
		at, size, want int
		is             bool
	}{
		{0, 1, 1, true},
		{0, 2, 258, true},
		{1, 3, 0x02ff80, true},
		{0, 4, 0x0102ff80, true},
		{2, 2, 0xff80, true},
		{4, 1, 0, true},
		{1, 4, 0x02ff8000, true},
		{2, 4, 0, false},
		{5, 1, 0, false},
		{-1, 1, 0, false},
		{0, 0, 0, false},
		{0, -1, 0, false},
		{0, 5, 0, false},
	} {
		if got, is := Get(s, c.at, c.size); got != c.want || is != c.is {
			t.Errorf("Get(s, %d, %d) = %d, %v, want %d, %v", c.at, c.size, got, is, c.want, c.is)
		}
	}
	if got, is := Get("\xff\xff\xff\xff", 0, 4); got != 1<<32-1 || !is {
		t.Errorf("Get of four bytes 255 = %d, %v", got, is)
	}
}

func TestLayReplacesAsManyBytes(t *testing.T) { // P1.3
	const s = "\x00\xffcd"
	for _, c := range []struct {
		at   int
		part string
		want string
		is   bool
	}{
		{0, "", s, true},
		{0, "\xfe", "\xfe\xffcd", true},
		{1, "xy", "\x00xyd", true},
		{3, "\x00", "\x00\xffc\x00", true},
		{0, "wxyz", "wxyz", true},
		{4, "", s, true},
		{5, "", "", false},
		{4, "x", "", false},
		{3, "xy", "", false},
		{0, "vwxyz", "", false},
		{-1, "", "", false},
		{-1, "x", "", false},
		{math.MinInt, "x", "", false},
		{math.MaxInt, "x", "", false},
		{math.MaxInt, "", "", false},
	} {
		if got, is := Lay(s, c.at, c.part); got != c.want || is != c.is {
			t.Errorf("Lay(s, %d, %q) = %q, %v, want %q, %v", c.at, c.part, got, is, c.want, c.is)
		}
	}
	if got, is := Lay("", 0, ""); got != "" || !is {
		t.Errorf("Lay of nothing into nothing = %q, %v", got, is)
	}
}

func TestWhatWasPutAndLaidIsGot(t *testing.T) { // P1.4
	const s = "0123456789"
	for size := 1; size <= 4; size++ {
		most := 1<<(8*size) - 1
		for _, n := range []int{0, 1, 127, 128, 255, most / 3, most - 1, most} {
			for at := 0; at+size <= len(s); at++ {
				laid, is := Lay(s, at, Put(n, size))
				if !is || len(laid) != len(s) || laid[:at] != s[:at] || laid[at+size:] != s[at+size:] {
					t.Fatalf("Lay of %d, size %d, at %d = %q, %v", n, size, at, laid, is)
				}
				if got, is := Get(laid, at, size); got != n || !is {
					t.Errorf("got %d, %v of %d, size %d, at %d", got, is, n, size, at)
				}
			}
		}
	}
}
