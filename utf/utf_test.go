package utf_test

import (
	"bytes"
	"math"
	"testing"
	"unicode/utf8"

	"dragoman/utf"
)

// letters are numbers at the edges that chapter 1 names, with their bytes written out.
var letters = []struct {
	r int
	b string
}{
	{0, "\x00"},
	{'a', "a"},
	{127, "\x7F"},
	{128, "\xC2\x80"},
	{233, "\xC3\xA9"},
	{2047, "\xDF\xBF"},
	{2048, "\xE0\xA0\x80"},
	{8364, "\xE2\x82\xAC"},
	{55295, "\xED\x9F\xBF"},
	{57344, "\xEE\x80\x80"},
	{65533, "\xEF\xBF\xBD"},
	{65535, "\xEF\xBF\xBF"},
	{65536, "\xF0\x90\x80\x80"},
	{128512, "\xF0\x9F\x98\x80"},
	{1114111, "\xF4\x8F\xBF\xBF"},
}

// noLetters are numbers that are none. The last four would be letters, were they cut to 32 bits.
var noLetters = []int{-1, -128, 55296, 56319, 56320, 57343, 1114112, math.MaxInt32, math.MinInt32,
	math.MaxInt, math.MinInt, 1 << 32, 1<<32 | 'a', -(1 << 32), -1<<32 | 8364}

// noBeginnings are texts that begin with no letter.
var noBeginnings = []struct{ why, s string }{
	{"nothing", ""},
	{"a later byte alone", "\x80"},
	{"the last later byte", "\xBF"},
	{"0 in two bytes", "\xC0\x80"},
	{"127 in two bytes", "\xC1\xBF"},
	{"0 in three bytes", "\xE0\x80\x80"},
	{"2047 in three bytes", "\xE0\x9F\xBF"},
	{"0 in four bytes", "\xF0\x80\x80\x80"},
	{"65535 in four bytes", "\xF0\x8F\xBF\xBF"},
	{"55296", "\xED\xA0\x80"},
	{"57343", "\xED\xBF\xBF"},
	{"1114112", "\xF4\x90\x80\x80"},
	{"2097151", "\xF7\xBF\xBF\xBF"},
	{"five bytes", "\xF8\x88\x80\x80\x80"},
	{"six bytes", "\xFC\x84\x80\x80\x80\x80"},
	{"254", "\xFE\x80\x80\x80"},
	{"255", "\xFF\xBF\xBF\xBF"},
	{"cut short of two", "\xC3"},
	{"cut short of three", "\xE2\x82"},
	{"first of three", "\xE2"},
	{"cut short of four", "\xF0\x9F\x98"},
	{"two of four", "\xF0\x9F"},
	{"first of four", "\xF0"},
	{"second byte is no later one", "\xC3a"},
	{"second of three is no later one", "\xE2a\xAC"},
	{"third byte is no later one", "\xE2\x82a"},
	{"second of four is no later one", "\xF0a\x98\x80"},
	{"third of four is no later one", "\xF0\x9Fa\x80"},
	{"fourth byte is no later one", "\xF0\x9F\x98a"},
	{"a first byte for a later one", "\xC3\xC3"},
	{"192 to 255 for a later one", "\xE2\x82\xEC"},
}

// texts are whole texts: where the first byte that begins no letter stands (-1: none), and where each counted part begins, the end too.
var texts = []struct {
	s      string
	bad    int
	begins []int
}{
	{"", -1, []int{0}},
	{"a", -1, []int{0, 1}},
	{"\x00\x00", -1, []int{0, 1, 2}},
	{"a\xC3\xA9\xE2\x82\xAC\xF0\x9F\x98\x80z", -1, []int{0, 1, 3, 6, 10, 11}},
	{"\xEF\xBF\xBD", -1, []int{0, 3}},
	{"\x80", 0, []int{0, 1}},
	{"ab\xFF", 2, []int{0, 1, 2, 3}},
	{"\xC0\x80", 0, []int{0, 1, 2}},
	{"a\xED\xA0\x80b", 1, []int{0, 1, 2, 3, 4, 5}},
	{"\xE2\x82", 0, []int{0, 1, 2}},
	{"\xE2\x82\xAC\xE2\x82", 3, []int{0, 3, 4, 5}},
	{"\xE2\x82\xC3\xA9", 0, []int{0, 1, 2, 4}},
	{"\xF0\x9F\x98a\xFF", 0, []int{0, 1, 2, 3, 4, 5}},
	{"\xC3\xA9\xF4\x90\x80\x80\xC3\xA9", 2, []int{0, 2, 3, 4, 5, 6, 8}},
}

func TestGood(t *testing.T) {
	for _, l := range letters {
		if !utf.Good(l.r) {
			t.Errorf("P1.1: Good(%d) is false", l.r)
		}
	}
	for _, r := range noLetters {
		if utf.Good(r) {
			t.Errorf("P1.1: Good(%d) is true", r)
		}
	}
}

func TestPut(t *testing.T) {
	for _, l := range letters {
		if got := utf.Put(nil, l.r); string(got) != l.b {
			t.Errorf("P1.1: Put(nothing, %d): %v", l.r, got)
		}
		if got := utf.Put([]byte("x\xFF"), l.r); string(got) != "x\xFF"+l.b {
			t.Errorf("P1.1: Put(x 255, %d): %v", l.r, got)
		}
	}
	for _, r := range noLetters {
		if got := utf.Put([]byte("x\xFF"), r); string(got) != "x\xFF" {
			t.Errorf("P1.1: Put(x 255, %d): %v", r, got)
		}
		if got := utf.Put(nil, r); len(got) != 0 {
			t.Errorf("P1.1: Put(nothing, %d): %v", r, got)
		}
	}
}

func TestPutAnswersNewMemory(t *testing.T) {
	for _, r := range []int{'a', 233, 8364, 128512, -1, 55296} {
		room := []byte("xy0123456789")
		b := room[:2]
		got := utf.Put(b, r)
		for i := range got[:cap(got)] {
			got[:cap(got)][i] = '!'
		}
		if string(room) != "xy0123456789" {
			t.Errorf("R4: Put(xy, %d) shares memory with what it was given: %q", r, room)
		}
		first := utf.Put(b, r)
		second := bytes.Clone(first)
		b[0] = '?'
		if !bytes.Equal(first, second) {
			t.Errorf("R4: Put(xy, %d) keeps what it was given", r)
		}
	}
}

func TestTake(t *testing.T) {
	for _, l := range letters {
		for _, behind := range []string{"", "a", "\x80", "\xBF\xBF", "\xFF", "\xE2\x82\xAC"} {
			if r, n := utf.Take(l.b + behind); r != l.r || n != len(l.b) {
				t.Errorf("P1.1: Take(%x and %x): %d, %d", l.b, behind, r, n)
			}
		}
		for cut := range len(l.b) {
			if r, n := utf.Take(l.b[:cut]); r != 0 || n != 0 {
				t.Errorf("P1.1: Take(%x): %d, %d", l.b[:cut], r, n)
			}
		}
	}
	for _, no := range noBeginnings {
		if r, n := utf.Take(no.s); r != 0 || n != 0 {
			t.Errorf("P1.1: Take of %s: %d, %d", no.why, r, n)
		}
	}
}

func TestValid(t *testing.T) {
	for _, x := range texts {
		want, good := x.bad, false
		if x.bad < 0 {
			want, good = len(x.s), true
		}
		if at, ok := utf.Valid(x.s); at != want || ok != good {
			t.Errorf("P1.1: Valid(%x): %d, %v", x.s, at, ok)
		}
	}
	for _, no := range noBeginnings[1:] {
		if at, ok := utf.Valid("a\xE2\x82\xAC" + no.s); at != 4 || ok {
			t.Errorf("P1.1: Valid of a letter and %s: %d, %v", no.why, at, ok)
		}
	}
}

func TestCount(t *testing.T) {
	for _, x := range texts {
		if got := utf.Count(x.s); got != len(x.begins)-1 {
			t.Errorf("P1.1: Count(%x): %d", x.s, got)
		}
	}
}

func TestAt(t *testing.T) {
	for _, x := range texts {
		for n, want := range x.begins {
			if at, ok := utf.At(x.s, n); at != want || !ok {
				t.Errorf("P1.1: At(%x, %d): %d, %v", x.s, n, at, ok)
			}
		}
		for _, n := range []int{-1, math.MinInt, len(x.begins), len(x.begins) + 1, math.MaxInt} {
			if at, ok := utf.At(x.s, n); at != 0 || ok {
				t.Errorf("P1.1: At(%x, %d): %d, %v", x.s, n, at, ok)
			}
		}
	}
}

// checkText holds all that is asked of a text against the language's own reading of it.
func checkText(t *testing.T, s string) {
	t.Helper()
	want, size := utf8.DecodeRuneInString(s)
	if want == utf8.RuneError && size < 3 {
		want, size = 0, 0
	}
	if r, n := utf.Take(s); r != int(want) || n != size {
		t.Fatalf("P1.1: Take(%x): %d, %d", s, r, n)
	}
	if utf.Count(s) != utf8.RuneCountInString(s) {
		t.Fatalf("P1.1: Count(%x): %d", s, utf.Count(s))
	}
	bad, n := -1, 0
	for at, r := range s {
		if _, size := utf8.DecodeRuneInString(s[at:]); r == utf8.RuneError && size == 1 && bad < 0 {
			bad = at
		}
		if got, ok := utf.At(s, n); got != at || !ok {
			t.Fatalf("P1.1: At(%x, %d): %d, %v", s, n, got, ok)
		}
		n++
	}
	at, ok := utf.Valid(s)
	if ok != (bad < 0) || ok && at != len(s) || !ok && at != bad {
		t.Fatalf("P1.1: Valid(%x): %d, %v", s, at, ok)
	}
}

// Each two bytes begin a letter or none by themselves and what stands behind them.
func TestEveryTwoBytes(t *testing.T) {
	for a := range 256 {
		for b := range 256 {
			for _, behind := range []string{"", "\x80", "\xBF\x80", "\x80a", "a\x80", "\xC0\x80"} {
				checkText(t, string([]byte{byte(a), byte(b)})+behind)
			}
		}
	}
}

func TestEveryNumber(t *testing.T) {
	for r := -300; r < 1114112+300; r++ {
		good := r >= 0 && utf8.ValidRune(rune(r))
		if utf.Good(r) != good {
			t.Fatalf("P1.1: Good(%d): %v", r, !good)
		}
		b := utf.Put(nil, r)
		if !good {
			if len(b) != 0 {
				t.Fatalf("P1.1: Put(nothing, %d): %v", r, b)
			}
			continue
		}
		if string(b) != string(rune(r)) {
			t.Fatalf("P1.1: Put(nothing, %d): %v", r, b)
		}
		checkText(t, string(b))
	}
}

func FuzzText(f *testing.F) {
	for _, x := range texts {
		f.Add(x.s)
	}
	for _, no := range noBeginnings {
		f.Add(no.s)
	}
	f.Fuzz(checkText)
}
