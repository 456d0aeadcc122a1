// Package utf: letters in bytes: see DOC.md, chapter 1.
package utf

const (
	maxLetter = 1114111
	firstHalf = 55296
	lastHalf  = 57343
)

// The first numbers that need two, three and four bytes.
const (
	needsTwo   = 128
	needsThree = 2048
	needsFour  = 65536
)

// Good tells whether a number is a letter.
func Good(r int) bool {
	return r >= 0 && r <= maxLetter && (r < firstHalf || r > lastHalf)
}

// Put writes one.
func Put(b []byte, r int) []byte {
	// Appending to b itself could write into its spare room, which is the caller's.
	out := make([]byte, len(b), len(b)+4)
	copy(out, b)
	if !Good(r) {
		return out
	}
	switch width(r) {
	case 1:
		return append(out, byte(r))
	case 2:
		return append(out, 0xC0|byte(r>>6), later(r))
	case 3:
		return append(out, 0xE0|byte(r>>12), later(r>>6), later(r))
	}
	return append(out, 0xF0|byte(r>>18), later(r>>12), later(r>>6), later(r))
}

// later is the byte behind the first that holds the lowest six bits.
func later(bits int) byte { return 0x80 | byte(bits&0x3F) }

// width tells how many bytes a letter needs.
func width(r int) int {
	switch {
	case r < needsTwo:
		return 1
	case r < needsThree:
		return 2
	case r < needsFour:
		return 3
	}
	return 4
}

// Take reads one.
func Take(s string) (int, int) {
	if len(s) == 0 {
		return 0, 0
	}
	r, n := begin(s[0])
	if n == 0 || n > len(s) {
		return 0, 0
	}
	for i := 1; i < n; i++ {
		if s[i]&0xC0 != 0x80 {
			return 0, 0
		}
		r = r<<6 | int(s[i]&0x3F)
	}
	// A number that fewer bytes could hold would have two spellings.
	if !Good(r) || width(r) != n {
		return 0, 0
	}
	return r, n
}

// begin tells the bits that a first byte holds, and how many bytes its letter has: 0, 0, if it begins none.
func begin(b byte) (int, int) {
	switch {
	case b < 0x80:
		return int(b), 1
	case b&0xE0 == 0xC0:
		return int(b & 0x1F), 2
	case b&0xF0 == 0xE0:
		return int(b & 0x0F), 3
	case b&0xF8 == 0xF0:
		return int(b & 0x07), 4
	}
	return 0, 0
}

// Valid tells whether a text is letters alone; else where the first byte stands that begins none.
func Valid(s string) (int, bool) {
	at := 0
	for at < len(s) {
		_, n := Take(s[at:])
		if n == 0 {
			return at, false
		}
		at += n
	}
	return at, true
}

// Count counts letters, each byte that begins none being one.
func Count(s string) int {
	count := 0
	for at := 0; at < len(s); at += stride(s[at:]) {
		count++
	}
	return count
}

// At tells where the n-th of those that Count counts begins.
func At(s string, n int) (int, bool) {
	if n < 0 {
		return 0, false
	}
	at := 0
	for ; n > 0; n-- {
		if at == len(s) {
			return 0, false
		}
		at += stride(s[at:])
	}
	return at, true
}

// stride is how far the next letter of a text that is not empty lies; a byte that begins none is passed alone.
func stride(s string) int {
	_, n := Take(s)
	return max(n, 1)
}
