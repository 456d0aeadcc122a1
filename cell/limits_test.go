package cell_test

import (
	"slices"
	"strings"
	"testing"

	"dragoman/api"
	"dragoman/cell"
)

// maxStamp is how many bytes a stamp may have, as chapter 4 says.
const maxStamp = 64

// TestMostBytes: a string of MaxStr bytes may be, one of one more may not; a mark ahead is not counted.
func TestMostBytes(t *testing.T) {
	const most = api.MaxStr
	for _, s := range []string{
		strings.Repeat("x", most), strings.Repeat(" ", most), strings.Repeat("5", most), "null" + strings.Repeat("x", most-4), "-" + strings.Repeat("0", most-1),
		// Bytes are counted, not letters.
		strings.Repeat("\u00e9", most/2), strings.Repeat("\U0001F600", most/4), "a" + strings.Repeat("\u20ac", most/3),
	} {
		if len(s) != most {
			t.Fatalf("a string of %d bytes, not %d", len(s), most)
		}
		writes(t, said(s), s)
		reads(t, "'"+s, said(s))
		for _, more := range []string{s + "x", s + "\u20ac", "x" + s, s + s, s + "'", s + "@"} {
			writesNothing(t, said(more))
			refuses(t, more, api.ELIMIT)
			refuses(t, "'"+more, api.ELIMIT)
		}
		// What is no letter is told ahead of what is too long.
		for _, more := range []string{s[:most-1] + "\xff", s + "\xff", "\xff" + s, s + s + "\xff"} {
			writesNothing(t, said(more))
			refuses(t, more, api.EUTF)
			refuses(t, "'"+more, api.EUTF)
		}
	}
}

// TestMostBytesMarked: a string of MaxStr bytes that begins with a mark has a text of one byte more, which
// is read back; as a string that has one byte more it is refused.
func TestMostBytesMarked(t *testing.T) {
	const most = api.MaxStr
	xs := strings.Repeat("x", most)
	for _, mark := range []string{"'", "@"} {
		s := mark + xs[1:]
		writes(t, said(s), "'"+s)
		writesNothing(t, said(mark+xs))
		refuses(t, "'"+mark+xs, api.ELIMIT)
	}
	// All of them marks.
	writes(t, said(strings.Repeat("'", most)), strings.Repeat("'", most+1))
	refuses(t, strings.Repeat("'", most+2), api.ELIMIT)
	writes(t, said(strings.Repeat("@", most)), "'"+strings.Repeat("@", most))
	refuses(t, "'"+strings.Repeat("@", most+1), api.ELIMIT)
	// One byte less has the first mark taken off.
	reads(t, strings.Repeat("'", most), said(strings.Repeat("'", most-1)))
}

// TestMostDigits: a text of MaxDigits bytes may be a number, one of one more is a string.
func TestMostDigits(t *testing.T) {
	const most = api.MaxDigits
	for _, s := range []string{strings.Repeat("9", most), "-" + strings.Repeat("9", most-1), "0." + strings.Repeat("0", most-2), "1e" + strings.Repeat("0", most-2), "1." + strings.Repeat("5", most-5) + "e-5"} {
		if len(s) != most {
			t.Fatalf("a number of %d bytes, not %d", len(s), most)
		}
		writes(t, num(s), s)
		writes(t, said(s), "'"+s)
		writesNothing(t, num(s+"0"))
		writes(t, said(s+"0"), s+"0")
	}
}

// TestMostStamp: a stamp has at most 64 bytes; what is longer behind its mark is no stamp, be it longer
// than any string may be or not.
func TestMostStamp(t *testing.T) {
	for _, part := range []string{"x", " ", "~", "@", "'", "5"} {
		s := strings.Repeat(part, maxStamp)
		writes(t, stamp(s), "@"+s)
		writes(t, stamp(s[1:]), "@"+s[1:])
		for _, n := range []int{maxStamp + 1, maxStamp + 2, api.MaxStr - 1, api.MaxStr, api.MaxStr + 1, 2 * api.MaxStr} {
			long := strings.Repeat(part, n)
			writesNothing(t, stamp(long))
			refuses(t, "@"+long, api.ESYNTAX)
			refuses(t, "@"+long+"\xff", api.ESYNTAX)
		}
		writes(t, said("@"+s+"x"), "'@"+s+"x")
	}
}

// TestGreat: texts and trees far beyond every limit are told quickly.
func TestGreat(t *testing.T) {
	long := strings.Repeat("x", 1<<24)
	refuses(t, long, api.ELIMIT)
	refuses(t, "'"+long, api.ELIMIT)
	refuses(t, "@"+long, api.ESYNTAX)
	refuses(t, long+"\xff", api.EUTF)
	refuses(t, strings.Repeat("5", 1<<24), api.ELIMIT)
	writesNothing(t, said(long))
	writesNothing(t, num(strings.Repeat("5", 1<<24)))
	writesNothing(t, stamp(long))
	deep := empty
	for range 1<<16 - 1 {
		deep = list(deep)
	}
	// Not told if it fails: telling it would go as deep.
	if s, ok := cell.Text(deep); s != "" || ok {
		t.Errorf("P15.1: Text of lists far past MaxDepth: %s, %v", short(s), ok)
	}
	writesNothing(t, api.Value{Kind: api.List, L: slices.Repeat([]api.Value{null}, 1<<20)})
	writesNothing(t, api.Value{Kind: api.Map, M: slices.Repeat([]api.Pair{{}}, 1<<20)})
	writesNothing(t, api.Value{Kind: 9, L: slices.Repeat([]api.Value{null}, 1<<20)})
}
