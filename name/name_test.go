package name

import (
	"fmt"
	"slices"
	"strings"
	"testing"
)

var (
	x63 = strings.Repeat("x", 63)
	// most has four labels and 255 bytes, as many as a name may have.
	most = []string{x63, x63, x63, strings.Repeat("y", 61)}
	// deep has 127 labels, as many as a name may have.
	deep = slices.Repeat([]string{"a"}, 127)
)

// wire lays labels out as a name's bytes, whether or not they make up a name.
func wire(l ...string) string {
	s := ""
	for _, x := range l {
		s += string([]byte{byte(len(x))}) + x
	}
	return s + "\x00"
}

// everyByte are names that hold each of the 256 bytes, as a label of its own.
func everyByte() []string {
	var all []string
	for c := range 256 {
		all = append(all, wire(string([]byte{byte(c)})))
	}
	return all
}

func names() []string {
	return append(everyByte(),
		"\x00",
		wire("a", "b"),
		wire("WWW", "Example-1_", "com"),
		wire(x63),
		wire(most...),
		wire(deep...),
		wire("\xc3\xa9", "\xe2\x82\xac", "\xf0\x9f\x98\x80"),
		wire("\xef\xbf\xbd", "\xff\xfe", "\xc3A", "\xe2\x82Z", "\x80\xbf"),
		wire("\x03abc", "\x00", "\x00\x00", "."),
		wire("K\xe2\x84\xaa", "\xc4\xb0I"),
	)
}

func notNames() []string {
	return []string{
		"",
		"a",
		"a.b",
		"\x01",
		"\x01a",
		"\x02a\x00",
		"\x00\x00",
		"\x00\x01a\x00",
		"\x01a\x00\x00",
		"\x01a\x00b",
		"\x01a\x01b",
		wire(strings.Repeat("x", 64)),
		wire("a", strings.Repeat("x", 64)),
		"\x80" + strings.Repeat("x", 128) + "\x00",
		"\xc0\x0c",
		"\x01a\xc0\x0c",
		wire(x63, x63, x63, strings.Repeat("y", 62)),
		wire(slices.Repeat([]string{"a"}, 128)...),
		strings.Repeat("\x01a", 127) + "\x01",
		strings.Repeat("\x00", 300),
		strings.Repeat("a", 100000),
	}
}

func TestCheckNames(t *testing.T) { // P2.1
	for _, n := range names() {
		if !Check(n) {
			t.Errorf("Check(%q) = false", n)
		}
	}
	for _, n := range notNames() {
		if Check(n) {
			t.Errorf("Check(%q) = true", n)
		}
	}
}

func TestLabelsInOrder(t *testing.T) { // P2.1
	for _, want := range [][]string{
		{},
		{"a", "b"},
		{"Ab", "\x00", ".", "\xff"},
		{"\x01a\x00"},
		most,
		deep,
	} {
		if got := Labels(wire(want...)); !slices.Equal(got, want) {
			t.Errorf("Labels of %q = %q", want, got)
		}
		if got, is := Join(want); got != wire(want...) || !is {
			t.Errorf("Join(%q) = %q, %v", want, got, is)
		}
	}
	if got, is := Join(nil); got != "\x00" || !is {
		t.Errorf("Join(nil) = %q, %v, want the root", got, is)
	}
}

func TestJoinRefusesWhatMakesNoName(t *testing.T) { // P2.1
	for _, l := range [][]string{
		{""},
		{"a", ""},
		{"", "a"},
		{"a", "", "b"},
		{strings.Repeat("x", 64)},
		{"a", strings.Repeat("x", 64)},
		{strings.Repeat("x", 256)},
		{strings.Repeat("x", 257)},
		{x63, x63, x63, strings.Repeat("y", 62)},
		slices.Repeat([]string{"a"}, 128),
		slices.Repeat([]string{x63}, 1000),
	} {
		if got, is := Join(l); got != "" || is {
			t.Errorf("Join(%q) = %q, %v", l, got, is)
		}
	}
}

func TestJoinLeavesItsLabels(t *testing.T) { // P2.1, R5
	l := []string{"A", "b"}
	Join(l)
	if !slices.Equal(l, []string{"A", "b"}) {
		t.Errorf("Join changed its labels: %q", l)
	}
}

func TestOfNoNameThereIsNothing(t *testing.T) { // P2.1 to P2.3
	ok := wire("a")
	for _, n := range notNames() {
		if l := Labels(n); len(l) != 0 {
			t.Errorf("Labels(%q) = %q", n, l)
		}
		if s := Low(n); s != "" {
			t.Errorf("Low(%q) = %q", n, s)
		}
		if s := Text(n); s != "" {
			t.Errorf("Text(%q) = %q", n, s)
		}
		if s, is := Up(n); s != "" || is {
			t.Errorf("Up(%q) = %q, %v", n, s, is)
		}
		if Same(n, n) || Same(n, ok) || Same(ok, n) {
			t.Errorf("%q is the same as a name", n)
		}
		if In(n, n) || In(n, "\x00") || In(n, ok) || In(ok, n) {
			t.Errorf("%q lies in a name, or a name in it", n)
		}
	}
}

func TestLowChangesGreatLettersAlone(t *testing.T) { // P2.2
	for c, n := range everyByte() {
		want := c
		if c >= 65 && c <= 90 {
			want = c + 32
		}
		if got := Low(n); got != "\x01"+string([]byte{byte(want)})+"\x00" {
			t.Errorf("Low(%q) = %q", n, got)
		}
	}
	for n, want := range map[string]string{
		"\x00":                                 "\x00",
		wire("AbC", "Z", "x[Y"):                wire("abc", "z", "x[y"),
		wire("\xc3A", "\xe2\x82Z", "\xc3\x89"): wire("\xc3a", "\xe2\x82z", "\xc3\x89"),
		wire("K\xe2\x84\xaa", "\xc4\xb0I"):     wire("k\xe2\x84\xaa", "\xc4\xb0i"),
		wire("\xef\xbf\xbdQ", "\xff\xfeQ"):     wire("\xef\xbf\xbdq", "\xff\xfeq"),
		wire(strings.Repeat("X", 63)):          wire(x63),
	} {
		if got := Low(n); got != want {
			t.Errorf("Low(%q) = %q, want %q", n, got, want)
		}
	}
}

func TestSame(t *testing.T) { // P2.2
	for _, c := range []struct {
		a, b string
		want bool
	}{
		{wire("a", "B"), wire("A", "b"), true},
		{wire("a"), wire("b"), false},
		{wire("a", "b"), wire("ab"), false},
		{wire("a", "b"), wire("a.b"), false},
		{wire("["), wire("{"), false},
		{wire("@"), wire("`"), false},
		{wire("\xc3\x89"), wire("\xc3\xa9"), false},
		{wire("\xff"), wire("\xfe"), false},
		{wire("k"), wire("\xe2\x84\xaa"), false},
		{"\x00", "\x00", true},
		{"\x00", wire("a"), false},
		{"", "", false},
	} {
		if Same(c.a, c.b) != c.want || Same(c.b, c.a) != c.want {
			t.Errorf("Same(%q, %q) is not %v", c.a, c.b, c.want)
		}
	}
}

func TestUpTakesTheFirstLabelAway(t *testing.T) { // P2.2
	n := wire("Www", "\x01a", "Com")
	for _, want := range []string{wire("\x01a", "Com"), wire("Com"), "\x00"} {
		up, is := Up(n)
		if up != want || !is {
			t.Fatalf("Up(%q) = %q, %v, want %q", n, up, is, want)
		}
		n = up
	}
	if up, is := Up(n); up != "" || is {
		t.Errorf("Up of the root = %q, %v", up, is)
	}
}

func TestIn(t *testing.T) { // P2.2
	for _, c := range []struct {
		n, zone string
		want    bool
	}{
		{wire("a", "b", "c"), wire("B", "C"), true},
		{wire("A", "B", "C"), wire("c"), true},
		{wire("a", "b", "c"), wire("a", "b", "c"), true},
		{wire("a", "b", "c"), "\x00", true},
		{wire("a", "b", "c"), wire("b"), false},
		{wire("a", "b", "c"), wire("a", "b"), false},
		{wire("b", "c"), wire("a", "b", "c"), false},
		{"\x00", wire("a"), false},
		{"\x00", "\x00", true},
		{wire("ab"), wire("b"), false},
		{wire("a\x01b"), wire("b"), false},
		{wire("x", "a\x01B"), wire("b"), false},
		{wire("a", "b"), wire("a.b"), false},
	} {
		if got := In(c.n, c.zone); got != c.want {
			t.Errorf("In(%q, %q) = %v", c.n, c.zone, got)
		}
	}
}

func TestTextOfEachByte(t *testing.T) { // P2.3
	const plainBytes = "abcdefghijklmnopqrstuvwxyzABCDEFGHIJKLMNOPQRSTUVWXYZ0123456789-_"
	for c, n := range everyByte() {
		escaped := fmt.Sprintf("\\%03d", c)
		want, other := escaped, string([]byte{byte(c)})
		if strings.IndexByte(plainBytes, byte(c)) >= 0 {
			want, other = other, escaped
		}
		if got := Text(n); got != want {
			t.Errorf("Text(%q) = %q, want %q", n, got, want)
		}
		if got, is := Parse(want); got != n || !is {
			t.Errorf("Parse(%q) = %q, %v", want, got, is)
		}
		// A dot by itself is the root's text, and no label's.
		if got, is := Parse(other); other != "." && (got != "" || is) {
			t.Errorf("Parse(%q) = %q, %v", other, got, is)
		}
	}
}

func TestTextAndParse(t *testing.T) { // P2.3
	for text, n := range map[string]string{
		".":                     "\x00",
		"a.b":                   wire("a", "b"),
		"www.Example-1_.com":    wire("www", "Example-1_", "com"),
		"\\046":                 wire("."),
		"\\046.\\046":           wire(".", "."),
		"a\\092b\\0001":         wire("a\\b\x001"),
		"\\195\\169a":           wire("\xc3\xa9a"),
		"\\239\\191\\189\\255":  wire("\xef\xbf\xbd\xff"),
		"\\226\\130Z":           wire("\xe2\x82Z"),
		"1.2":                   wire("1", "2"),
		strings.Join(most, "."): wire(most...),
		strings.Join(deep, "."): wire(deep...),
	} {
		if got := Text(n); got != text {
			t.Errorf("Text(%q) = %q, want %q", n, got, text)
		}
		if got, is := Parse(text); got != n || !is {
			t.Errorf("Parse(%q) = %q, %v, want %q", text, got, is, n)
		}
	}
	longest := wire(strings.Repeat("\xff", 63), strings.Repeat("\x00", 63), strings.Repeat(".", 63), strings.Repeat("\x80", 61))
	if got, is := Parse(Text(longest)); got != longest || !is {
		t.Errorf("the longest text is parsed as %q, %v", got, is)
	}
}

func TestParseRefusesWhatIsNoText(t *testing.T) { // P2.3
	for _, text := range []string{
		"", "..", "...", "a.", ".a", "a..b", "a.b.", " ", "a b", " a", "a\n", "\x00", "\x01a\x00",
		"\\", "\\0", "\\04", "a\\04", "\\046\\", "\\04.6", "\\0 6", "\\+46", "\\-46", "\\.", "\\a", "\\\\",
		"\\a046", "\\0a46", "\\04a6", "\\.046", "\\0.46", "\\04\\6", "\\\\046", "\\0\\046",
		"\\256", "\\300", "\\999", "\\302", "\\097", "\\048", "\\045", "\\095", "\\065", "\\122",
		"\xff", "a\xff", "\xc3\xa9", "\xef\xbf\xbd", "\u0661", "\\\u0660\u0664\u0666", "a\u3002b", "\uff41",
		strings.Repeat("x", 64),
		strings.Repeat("\\000", 64),
		strings.Join([]string{x63, x63, x63, strings.Repeat("y", 62)}, "."),
		strings.Repeat("a.", 127) + "a",
		strings.Repeat(".", 100000),
		strings.Repeat("\\000.", 100000),
	} {
		if got, is := Parse(text); got != "" || is {
			t.Errorf("Parse(%q) = %q, %v", text, got, is)
		}
	}
}

func TestLabelsJoinedAreTheName(t *testing.T) { // P2.4
	for _, n := range names() {
		if got, is := Join(Labels(n)); got != n || !is {
			t.Errorf("the labels of %q, joined: %q, %v", n, got, is)
		}
		if got, is := Parse(Text(n)); got != n || !is {
			t.Errorf("the text of %q, parsed: %q, %v", n, got, is)
		}
	}
}

func TestANameLiesInAllAboveIt(t *testing.T) { // P2.4
	for _, n := range names() {
		for up, is := n, true; is; up, is = Up(up) {
			if !In(n, up) || !In(Low(n), up) || !In(n, Low(up)) {
				t.Errorf("%q does not lie in %q", n, up)
			}
			if In(up, n) != (up == n) {
				t.Errorf("%q lies in %q", up, n)
			}
		}
	}
}

// TestShortTexts goes through all texts of up to six bytes of a few kinds, names or not, and
// holds every call against what the chapter says of it.
func TestShortTexts(t *testing.T) { // P2.1 to P2.4, R1
	const kinds = "\x00\x01\x02Aa\xc0"
	level := []string{""}
	for range 6 {
		var next []string
		for _, s := range level {
			for i := range len(kinds) {
				next = append(next, s+kinds[i:i+1])
			}
		}
		for _, s := range next {
			checkShort(t, s)
		}
		level = next
	}
}

// shortLabels reads labels one by one, from the chapter's words alone.
func shortLabels(s string) ([]string, bool) {
	l := []string{}
	for len(s) > 0 {
		k := int(s[0])
		if k == 0 {
			return l, len(s) == 1
		}
		if k > 63 || len(s) < k+1 {
			return nil, false
		}
		l, s = append(l, s[1:k+1]), s[k+1:]
	}
	return nil, false
}

func checkShort(t *testing.T, s string) {
	want, is := shortLabels(s)
	if Check(s) != is || is && !slices.Equal(Labels(s), want) || !is && Labels(s) != nil {
		t.Errorf("%q: Check %v, Labels %q", s, Check(s), Labels(s))
	}
	low := ""
	if is {
		low = strings.ReplaceAll(s, "A", "a")
	}
	if Low(s) != low || Same(s, low) != is || In(s, "\x00") != is {
		t.Errorf("%q: Low %q, Same %v, In the root %v", s, Low(s), Same(s, low), In(s, "\x00"))
	}
	if back, ok := Parse(Text(s)); ok != is || is && back != s {
		t.Errorf("%q: Text %q, parsed %q, %v", s, Text(s), back, ok)
	}
	if _, ok := Up(s); ok != (is && len(want) > 0) {
		t.Errorf("%q: Up %v", s, ok)
	}
}
