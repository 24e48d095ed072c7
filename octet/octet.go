// Package octet is layer 1, numbers as bytes: see shared/doc/01-octet.md.
package octet

const (
	maxSize  = 4
	byteBits = 8
)

// Put tells the size bytes of n, the highest first; nothing, if n has no such bytes.
func Put(n int, size int) string {
	if !sized(size) || n < 0 || n>>(byteBits*size) != 0 {
		return ""
	}
	b := make([]byte, size)
	for i := range size {
		b[size-1-i] = byte(n >> (byteBits * i))
	}
	return string(b)
}

// Get tells the number whose size bytes stand in s from at on, the highest first.
func Get(s string, at int, size int) (int, bool) {
	if !sized(size) {
		return 0, false
	}
	part, is := Take(s, at, size)
	if !is {
		return 0, false
	}
	n := 0
	for i := range size {
		n = n<<byteBits | int(part[i])
	}
	return n, true
}

// Take tells the size bytes of s from at on.
func Take(s string, at int, size int) (string, bool) {
	if !holds(s, at, size) {
		return "", false
	}
	return s[at : at+size], true
}

// Lay tells s with part in place of as many bytes from at on.
func Lay(s string, at int, part string) (string, bool) {
	if !holds(s, at, len(part)) {
		return "", false
	}
	b := []byte(s)
	for i := range len(part) {
		b[at+i] = part[i]
	}
	return string(b), true
}

func sized(size int) bool { return 1 <= size && size <= maxSize }

// holds subtracts rather than adds: at and size together may pass the greatest int.
func holds(s string, at int, size int) bool {
	return at >= 0 && size >= 0 && size <= len(s)-at
}
