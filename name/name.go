// Package name is layer 2, names: see shared/doc/02-name.md.
package name

import "wellspring/api"

const (
	root         = "\x00"
	rootText     = "."
	escapeDigits = 3
	maxByte      = 255
)

// Check tells whether n is a name.
func Check(n string) bool {
	if len(n) > api.MaxName {
		return false
	}
	at := 0
	for at < len(n) && n[at] != 0 {
		if n[at] > api.MaxLabel {
			return false
		}
		at += 1 + int(n[at])
	}
	return at == len(n)-1
}

// Labels tells the labels of n, in order.
func Labels(n string) []string {
	if !Check(n) {
		return nil
	}
	var l []string
	for n != root {
		end := firstEnd(n)
		l = append(l, n[1:end])
		n = n[end:]
	}
	return l
}

// Join tells the name of these labels.
func Join(l []string) (string, bool) {
	var b []byte
	for _, label := range l {
		// Two more: the length ahead of the label, and the 0 behind the last one.
		if label == "" || len(label) > api.MaxLabel || len(b)+len(label)+2 > api.MaxName {
			return "", false
		}
		b = append(b, byte(len(label)))
		b = append(b, label...)
	}
	return string(append(b, 0)), true
}

// Low tells n with its labels in small letters.
func Low(n string) string {
	if !Check(n) {
		return ""
	}
	b := []byte(n)
	// A label's length is below all letters, so the whole text may be gone through.
	for i, r := range n {
		if 'A' <= r && r <= 'Z' {
			b[i] = byte(r - 'A' + 'a')
		}
	}
	return string(b)
}

// Same tells whether both are names, and but for great and small letters the same.
func Same(a string, b string) bool {
	return Check(a) && Check(b) && Low(a) == Low(b)
}

// Up tells the name without its first label.
func Up(n string) (string, bool) {
	if !Check(n) || n == root {
		return "", false
	}
	return n[firstEnd(n):], true
}

// In tells whether n is the zone's own name, or lies below it.
func In(n string, zone string) bool {
	if !Check(n) || !Check(zone) {
		return false
	}
	n, zone = Low(n), Low(zone)
	// Label by label: an end of n's bytes that looks like the zone may begin inside a label.
	for n != zone && n != root {
		n = n[firstEnd(n):]
	}
	return n == zone
}

// Text tells n as it is written for people.
func Text(n string) string {
	if !Check(n) {
		return ""
	}
	if n == root {
		return rootText
	}
	var b []byte
	for i, label := range Labels(n) {
		if i > 0 {
			b = append(b, '.')
		}
		b = appendLabel(b, label)
	}
	return string(b)
}

// Parse tells the name whose Text is t.
func Parse(t string) (string, bool) {
	if t == rootText {
		return root, true
	}
	// No name has so long a text: a byte takes at most four. The memory of split stays small so.
	if len(t) > (1+escapeDigits)*api.MaxName {
		return "", false
	}
	l, is := split(t)
	if !is {
		return "", false
	}
	return Join(l)
}

// firstEnd is where the first label of n ends; n is a name, and not the root.
func firstEnd(n string) int { return 1 + int(n[0]) }

// plain is asked of runes, not of bytes, so that no piece of a longer rune passes for a letter.
func plain(r rune) bool {
	return 'a' <= r && r <= 'z' || 'A' <= r && r <= 'Z' || digit(r) || r == '-' || r == '_'
}

func digit(r rune) bool { return '0' <= r && r <= '9' }

// appendLabel escapes what lies between two plain runes byte by byte: bytes that make up
// one rune, or none, are escaped alike.
func appendLabel(b []byte, label string) []byte {
	done := 0
	for i, r := range label {
		if plain(r) {
			b = appendEscaped(b, label[done:i])
			b = append(b, byte(r))
			done = i + 1
		}
	}
	return appendEscaped(b, label[done:])
}

func appendEscaped(b []byte, part string) []byte {
	for i := range len(part) {
		c := part[i]
		b = append(b, '\\', '0'+c/100, '0'+c/10%10, '0'+c%10)
	}
	return b
}

// split tells the labels that t writes, none of them checked for its length.
func split(t string) ([]string, bool) {
	var l []string
	var label []byte
	wanted, code := 0, 0
	for _, r := range t {
		switch {
		case wanted > 0 && digit(r):
			wanted--
			code = code*10 + int(r-'0')
			if wanted > 0 {
				continue
			}
			// A plain byte has one text alone, and it is not the escaped one.
			if code > maxByte || plain(rune(code)) {
				return nil, false
			}
			label = append(label, byte(code))
		case wanted > 0:
			return nil, false
		case r == '\\':
			wanted, code = escapeDigits, 0
		case r == '.':
			l = append(l, string(label))
			label = nil
		case plain(r):
			label = append(label, byte(r))
		default:
			return nil, false
		}
	}
	if wanted > 0 {
		return nil, false
	}
	return append(l, string(label)), true
}
