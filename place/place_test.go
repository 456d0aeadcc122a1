package place_test

import (
	"math"
	"testing"
	"unicode/utf8"

	"dragoman/api"
	"dragoman/place"
)

// spot is a byte's place with its line and column.
type spot struct{ at, line, col int }

// texts are whole texts: the spots that are asked for, and where each line begins.
var texts = []struct {
	why, s string
	spots  []spot
	begins []int
}{
	{"the chapter's own", "ab\nc",
		[]spot{{0, 1, 1}, {1, 1, 2}, {2, 1, 3}, {3, 2, 1}, {4, 2, 2}}, []int{0, 3}},
	{"an empty text", "", []spot{{0, 1, 1}}, []int{0}},
	{"one line end alone", "\n", []spot{{0, 1, 1}, {1, 2, 1}}, []int{0, 1}},
	{"line ends alone", "\n\n\n",
		[]spot{{0, 1, 1}, {1, 2, 1}, {2, 3, 1}, {3, 4, 1}}, []int{0, 1, 2, 3}},
	{"a line end at the end", "a\nb\n",
		[]spot{{1, 1, 2}, {2, 2, 1}, {3, 2, 2}, {4, 3, 1}}, []int{0, 2, 4}},
	{"13 ahead of 10", "a\r\nb",
		[]spot{{1, 1, 2}, {2, 1, 3}, {3, 2, 1}, {4, 2, 2}}, []int{0, 3}},
	{"13 alone, and behind 10", "a\rb\n\rc",
		[]spot{{1, 1, 2}, {2, 1, 3}, {3, 1, 4}, {4, 2, 1}, {5, 2, 2}, {6, 2, 3}}, []int{0, 4}},
	{"other bytes and letters that end lines elsewhere", "a\v\f\x1E\xC2\x85\xE2\x80\xA8b",
		[]spot{{2, 1, 3}, {4, 1, 5}, {6, 1, 6}, {9, 1, 7}, {10, 1, 8}}, []int{0}},
	{"letters of two, three and four bytes", "\xC3\xA9\n\xE2\x82\xAC\xF0\x9F\x98\x80z",
		[]spot{{0, 1, 1}, {2, 1, 2}, {3, 2, 1}, {6, 2, 2}, {10, 2, 3}, {11, 2, 4}}, []int{0, 3}},
	{"in the midst of letters", "\xC3\xA9\n\xE2\x82\xAC\xF0\x9F\x98\x80z",
		[]spot{{1, 1, 2}, {4, 2, 2}, {5, 2, 3}, {7, 2, 3}, {8, 2, 4}, {9, 2, 5}}, []int{0, 3}},
	{"bytes that begin no letter", "\xFF\x80\n\xC0\x80\xED\xA0\x80x",
		[]spot{{1, 1, 2}, {2, 1, 3}, {3, 2, 1}, {4, 2, 2}, {5, 2, 3}, {8, 2, 6}, {9, 2, 7}}, []int{0, 3}},
	{"a letter that a line end cuts short", "\xE2\x82\n\xAC",
		[]spot{{1, 1, 2}, {2, 1, 3}, {3, 2, 1}, {4, 2, 2}}, []int{0, 3}},
	{"bytes that have 10 for their low bits", "\x8A\xCA\x8A\xC4\x8A",
		[]spot{{1, 1, 2}, {3, 1, 3}, {5, 1, 4}}, []int{0}},
}

func TestOf(t *testing.T) {
	for _, x := range texts {
		for _, want := range x.spots {
			if line, col := place.Of(x.s, want.at); line != want.line || col != want.col {
				t.Errorf("P2.1: Of(%s, %d): %d, %d", x.why, want.at, line, col)
			}
		}
	}
}

func TestOfBeyondTheText(t *testing.T) {
	for _, x := range texts {
		endLine, endCol := place.Of(x.s, len(x.s))
		for _, at := range []int{-1, -2, math.MinInt32, math.MinInt} {
			if line, col := place.Of(x.s, at); line != 1 || col != 1 {
				t.Errorf("P2.1: Of(%s, %d): %d, %d", x.why, at, line, col)
			}
		}
		for _, at := range []int{len(x.s) + 1, len(x.s) + 2, math.MaxInt32, math.MaxInt} {
			if line, col := place.Of(x.s, at); line != endLine || col != endCol {
				t.Errorf("P2.1: Of(%s, %d): %d, %d", x.why, at, line, col)
			}
		}
	}
}

func TestFault(t *testing.T) {
	if got := place.Fault("x", 9, api.ESYNTAX); got != (api.Fault{Err: api.ESYNTAX, At: 1, Line: 1, Col: 2}) {
		t.Errorf("P2.1: Fault(x, 9, ESYNTAX): %v", got)
	}
	if got := place.Fault("x\ny", -9, api.EUTF); got != (api.Fault{Err: api.EUTF, At: 0, Line: 1, Col: 1}) {
		t.Errorf("P2.1: Fault(x 10 y, -9, EUTF): %v", got)
	}
	errs := []api.Errno{api.EARG, api.ELIMIT, api.EUTF, api.ESYNTAX, api.EOP, 99, -1, math.MaxInt}
	for _, x := range texts {
		for i, want := range x.spots {
			e := errs[i%len(errs)]
			if got := place.Fault(x.s, want.at, e); got != (api.Fault{Err: e, At: want.at, Line: want.line, Col: want.col}) {
				t.Errorf("P2.1: Fault(%s, %d, %d): %v", x.why, want.at, e, got)
			}
		}
	}
}

// A fault without an error still tells its place: the chapter makes no difference between the errors.
func TestFaultOfNoError(t *testing.T) {
	if got := place.Fault("a\nbc", 3, api.OK); got != (api.Fault{At: 3, Line: 2, Col: 2}) {
		t.Errorf("P2.1: Fault(a 10 bc, 3, OK): %v", got)
	}
}

func TestLines(t *testing.T) {
	for _, x := range texts {
		if got := place.Lines(x.s); got != len(x.begins) {
			t.Errorf("P2.1: Lines(%s): %d", x.why, got)
		}
	}
}

func TestBegin(t *testing.T) {
	for _, x := range texts {
		for i, want := range x.begins {
			if at, ok := place.Begin(x.s, i+1); at != want || !ok {
				t.Errorf("P2.1: Begin(%s, %d): %d, %v", x.why, i+1, at, ok)
			}
		}
		past := len(x.begins) + 1
		for _, line := range []int{0, -1, math.MinInt, past, past + 1, math.MaxInt} {
			if at, ok := place.Begin(x.s, line); at != 0 || ok {
				t.Errorf("P2.1: Begin(%s, %d): %d, %v", x.why, line, at, ok)
			}
		}
	}
}

// checkText goes through a text byte by byte and holds every place of it against what was seen so far.
func checkText(t *testing.T, s string) {
	t.Helper()
	line, begin := 1, 0
	checkBegin(t, s, line, begin)
	for at := range len(s) + 1 {
		wantCol := utf8.RuneCountInString(s[begin:at]) + 1
		want := api.Fault{Err: api.ECLASH, At: at, Line: line, Col: wantCol}
		if gotLine, gotCol := place.Of(s, at); gotLine != line || gotCol != wantCol {
			t.Fatalf("P2.1: Of(%x, %d): %d, %d", s, at, gotLine, gotCol)
		}
		if got := place.Fault(s, at, api.ECLASH); got != want {
			t.Fatalf("P2.1: Fault(%x, %d): %v", s, at, got)
		}
		if at < len(s) && s[at] == 10 {
			line, begin = line+1, at+1
			checkBegin(t, s, line, begin)
		}
	}
	if got := place.Lines(s); got != line {
		t.Fatalf("P2.1: Lines(%x): %d", s, got)
	}
	if at, ok := place.Begin(s, line+1); at != 0 || ok {
		t.Fatalf("P2.1: Begin(%x, %d): %d, %v", s, line+1, at, ok)
	}
}

// checkBegin asks for a line's beginning, and for what stands there.
func checkBegin(t *testing.T, s string, line, begin int) {
	t.Helper()
	if at, ok := place.Begin(s, line); at != begin || !ok {
		t.Fatalf("P2.1: Begin(%x, %d): %d, %v", s, line, at, ok)
	}
	if gotLine, gotCol := place.Of(s, begin); gotLine != line || gotCol != 1 {
		t.Fatalf("P2.1: Of(%x, %d) where a line begins: %d, %d", s, begin, gotLine, gotCol)
	}
}

// Each text of up to five of the bytes that make a difference.
func TestEveryShortText(t *testing.T) {
	bytes := []byte{'a', 10, 13, 0xC3, 0xA9, 0xE2, 0x82}
	level := []string{""}
	for range 6 {
		next := []string{}
		for _, s := range level {
			checkText(t, s)
			for _, b := range bytes {
				next = append(next, s+string([]byte{b}))
			}
		}
		level = next
	}
}

func FuzzText(f *testing.F) {
	for _, x := range texts {
		f.Add(x.s)
	}
	f.Fuzz(checkText)
}
