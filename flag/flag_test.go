package flag

import (
	"fmt"
	"math"
	"strconv"
	"testing"
)

// column is where a field's bits stand in a header that is written as sixteen digits, the highest bit first.
type column struct {
	field    Field
	from, to int
}

var columns = []column{
	{QR, 0, 1},
	{Opcode, 1, 5},
	{AA, 5, 6},
	{TC, 6, 7},
	{RD, 7, 8},
	{RA, 8, 9},
	// Digit 9 is bit 6, which is nobody's.
	{AD, 10, 11},
	{CD, 11, 12},
	{Rcode, 12, 16},
}

var (
	noFields = []Field{math.MinInt, -1, Fields, Fields + 1, 15, 64, math.MaxInt}
	noBits   = []int{math.MinInt, -65536, -1, 65536, 65537, 1 << 32, math.MaxInt}
)

func digits(bits int) string { return fmt.Sprintf("%016b", bits) }

func number(t *testing.T, digits string) int {
	t.Helper()
	n, err := strconv.ParseInt(digits, 2, 64)
	if err != nil {
		t.Fatal(err)
	}
	return int(n)
}

// The numbers of the fields are those that the chapter lists.
func TestFieldsAreCounted(t *testing.T) {
	for i, f := range []Field{QR, Opcode, AA, TC, RD, RA, AD, CD, Rcode, Fields} {
		if int(f) != i {
			t.Errorf("field %d has the number %d", i, f)
		}
	}
}

// P7.1: each field of all bits that may be.
func TestOf(t *testing.T) {
	for bits := range 65536 {
		for _, c := range columns {
			if got, want := c.field.Of(bits), number(t, digits(bits)[c.from:c.to]); got != want {
				t.Fatalf("field %d of %#x: %d, want %d", c.field, bits, got, want)
			}
		}
	}
}

// P7.1
func TestOfNothing(t *testing.T) {
	for _, c := range columns {
		for _, bits := range noBits {
			if got := c.field.Of(bits); got != 0 {
				t.Errorf("field %d of %d: %d", c.field, bits, got)
			}
		}
	}
	for _, f := range noFields {
		for _, bits := range append([]int{0, 1, 0x8000, 65535}, noBits...) {
			if got := f.Of(bits); got != 0 {
				t.Errorf("field %d of %d: %d", f, bits, got)
			}
		}
	}
}

// P7.2: each value of each field, laid into all bits that may be.
func TestWith(t *testing.T) {
	for bits := range 65536 {
		was := digits(bits)
		for _, c := range columns {
			for v := range 1 << (c.to - c.from) {
				want := number(t, was[:c.from]+fmt.Sprintf("%0*b", c.to-c.from, v)+was[c.to:])
				if got, is := c.field.With(bits, v); got != want || !is {
					t.Fatalf("field %d with %#x, %d: %#x, %v, want %#x", c.field, bits, v, got, is, want)
				}
			}
		}
	}
}

func withNothing(t *testing.T, f Field, bits int, v int) {
	t.Helper()
	if got, is := f.With(bits, v); got != 0 || is {
		t.Errorf("field %d with %d, %d: %#x, %v", f, bits, v, got, is)
	}
}

// P7.2
func TestWithNothing(t *testing.T) {
	for _, c := range columns {
		most := 1<<(c.to-c.from) - 1
		for _, bits := range []int{0, 0x8180, 65535} {
			for _, v := range []int{math.MinInt, -16, -1, most + 1, 2 * (most + 1), 16, 32, 65536, 1 << 32, math.MaxInt} {
				withNothing(t, c.field, bits, v)
			}
		}
		for _, bits := range noBits {
			withNothing(t, c.field, bits, 0)
			withNothing(t, c.field, bits, most)
		}
	}
	for _, f := range noFields {
		for _, bits := range append([]int{0, 65535}, noBits...) {
			withNothing(t, f, bits, 0)
			withNothing(t, f, bits, 1)
		}
	}
}

// P7.3: all bits that may be asked, and codes of which the header tells the lowest part.
func TestAnswer(t *testing.T) {
	for asked := range 65536 {
		was := digits(asked)
		for _, code := range []int{0, 1, 5, 15, 16, 18, 255} {
			want := number(t, "1"+was[1:5]+"00"+was[7:8]+"1"+"0"+"0"+was[11:12]+digits(code)[12:])
			if got := Answer(asked, code); got != want {
				t.Fatalf("Answer(%#x, %d) = %#x, want %#x", asked, code, got, want)
			}
		}
	}
}

// P7.3: codes below 0, far codes, and bits that may not be.
func TestAnswerEdges(t *testing.T) {
	for _, c := range [][3]int{
		{0, 0, 0x8080},
		{0xffff, 3, 0xf993},
		{0x0100, -1, 0x8180},
		{0x0100, -7, 0x8180},
		{0x0100, -16, 0x8180},
		{0x0100, math.MinInt, 0x8180},
		{0x0100, 65535, 0x818f},
		{0x0100, 1 << 32, 0x8180},
		{0x0100, math.MaxInt, 0x818f},
	} {
		if got := Answer(c[0], c[1]); got != c[2] {
			t.Errorf("Answer(%#x, %d) = %#x, want %#x", c[0], c[1], got, c[2])
		}
	}
	for _, asked := range noBits {
		if got := Answer(asked, 5); got != 0x8085 {
			t.Errorf("Answer(%d, 5) = %#x, want 0x8085", asked, got)
		}
	}
}

// P7.4: a field that is laid is told, all others tell what they did.
func TestLaidIsTold(t *testing.T) {
	for _, bits := range []int{0, 0x40, 0x8180, 0x5555, 0xaaaa, 65535} {
		for _, c := range columns {
			for v := range 1 << (c.to - c.from) {
				laid, is := c.field.With(bits, v)
				if !is || c.field.Of(laid) != v {
					t.Fatalf("field %d with %#x, %d: %#x, %v", c.field, bits, v, laid, is)
				}
				for _, other := range columns {
					if other.field != c.field && other.field.Of(laid) != other.field.Of(bits) {
						t.Fatalf("field %d with %#x, %d: field %d is another", c.field, bits, v, other.field)
					}
				}
			}
		}
	}
}

func ExampleField_Of() {
	fmt.Println(Opcode.Of(0x7800))
	// Output: 15
}

func ExampleAnswer() {
	fmt.Printf("%#x\n", Answer(0x0100, 3))
	// Output: 0x8183
}
