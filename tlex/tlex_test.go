package tlex_test

import (
	"math/big"
	"math/rand"
	"regexp"
	"slices"
	"strings"
	"testing"
	"time"
	"unsafe"

	"dragoman/api"
	"dragoman/dec"
	"dragoman/esc"
	"dragoman/tlex"
	"dragoman/value"
)

// rowLetters are the bytes of a row.
const rowLetters = "abcdefghijklmnopqrstuvwxyzABCDEFGHIJKLMNOPQRSTUVWXYZ0123456789_+-.:"

// The grammar, said once more.
const (
	ten   = `[0-9](?:_?[0-9])*`
	whole = `[+-]?(?:0|[1-9](?:_?[0-9])*)`
	day   = `(\d{4}-\d\d-\d\d)`
	hour  = `(?:[01]\d|2[0-3])`
	clock = hour + `:[0-5]\d:(?:[0-5]\d|60)(?:\.\d{1,9})?`
	zone  = `(?:[Zz]|[+-]` + hour + `:[0-5]\d)`
	row   = `[a-zA-Z0-9_+\-.:]*`
)

var (
	plainGap  = regexp.MustCompile(`^[ \t]*`)
	linesGap  = regexp.MustCompile(`^(?:[ \t\n]|\r\n|#[^\n]*(?:\n|$))*`)
	barePart  = regexp.MustCompile(`^[a-zA-Z0-9_-]+`)
	dotGap    = regexp.MustCompile(`^[ \t]*\.[ \t]*`)
	wholeForm = regexp.MustCompile(`\A` + whole + `\z`)
	baseForm  = regexp.MustCompile(`\A0(?:x[0-9a-fA-F](?:_?[0-9a-fA-F])*|o[0-7](?:_?[0-7])*|b[01](?:_?[01])*)\z`)
	numForm   = regexp.MustCompile(`\A` + whole + `(?:\.` + ten + `)?(?:[eE][+-]?` + ten + `)?\z`)
	nameForm  = regexp.MustCompile(`\A[+-]?(?:inf|nan)\z`)
	stampForm = regexp.MustCompile(`\A(?:` + clock + `|` + day + `(?:[Tt ]` + clock + zone + `?)?)\z`)
	firstRow  = regexp.MustCompile(`^` + row)
	twoRows   = regexp.MustCompile(`^` + row + ` ` + row)
)

// expectedKey is what Key must answer, worked out in another way.
func expectedKey(text string, at int) ([]string, int, int) {
	if at < 0 || at > len(text) {
		return nil, 0, min(max(at, 0), len(text))
	}
	parts := []string{}
	for {
		part := barePart.FindString(text[at:])
		next, bad := at+len(part), -1
		switch {
		case strings.HasPrefix(text[at:], `"""`), strings.HasPrefix(text[at:], `'''`):
			bad = at
		case part == "":
			part, next, bad = esc.TUnquote(text, at)
		}
		if bad >= 0 {
			return nil, 0, bad
		}
		parts = append(parts, part)
		gap := dotGap.FindString(text[next:])
		if gap == "" {
			return parts, next, -1
		}
		at = next + len(gap)
	}
}

// isNumber tells whether a row is a number's in form.
func isNumber(row string) bool {
	return wholeForm.MatchString(row) || baseForm.MatchString(row) || numForm.MatchString(row) || nameForm.MatchString(row)
}

// expectedNumber is what Number must answer, worked out in another way.
func expectedNumber(s string) (api.Value, api.Errno) {
	text := strings.TrimPrefix(strings.ReplaceAll(s, "_", ""), "+")
	switch {
	case nameForm.MatchString(s):
		return stampOf(s), api.OK
	case wholeForm.MatchString(s), baseForm.MatchString(s):
		base := 10
		if baseForm.MatchString(s) {
			base = 0
		}
		n, _ := new(big.Int).SetString(text, base)
		if !n.IsInt64() {
			return api.Value{}, api.ERANGE
		}
		return intOf(n.Int64()), api.OK
	case !numForm.MatchString(s):
		return api.Value{}, api.ESYNTAX
	case !dec.Good(text):
		return api.Value{}, api.ERANGE
	}
	return numOf(text), api.OK
}

// expectedStamp is what Stamp must answer, worked out in another way.
func expectedStamp(s string) bool {
	m := stampForm.FindStringSubmatch(s)
	if m == nil || m[1] == "" {
		return m != nil
	}
	_, err := time.Parse(time.DateOnly, m[1])
	return err == nil
}

// expectedPlain is what Plain must answer, worked out in another way.
func expectedPlain(text string, at int) (api.Value, int, api.Errno, int) {
	if at < 0 || at > len(text) {
		return api.Value{}, 0, api.ESYNTAX, min(max(at, 0), len(text))
	}
	rest := text[at:]
	if rest != "" && (rest[0] == '"' || rest[0] == '\'') {
		said, next, bad := esc.TUnquote(text, at)
		switch {
		case bad >= 0:
			return api.Value{}, 0, api.ESYNTAX, bad
		case len(said) > api.MaxStr:
			return api.Value{}, 0, api.ELIMIT, at
		}
		return strOf(said), next, api.OK, 0
	}
	one, two := firstRow.FindString(rest), twoRows.FindString(rest)
	switch {
	case one == "true":
		return api.Value{Kind: api.Bool, N: 1}, at + 4, api.OK, 0
	case one == "false":
		return api.Value{Kind: api.Bool}, at + 5, api.OK, 0
	case expectedStamp(two):
		return stampOf(two), at + len(two), api.OK, 0
	case expectedStamp(one):
		return stampOf(one), at + len(one), api.OK, 0
	}
	v, e := expectedNumber(one)
	if e != api.OK {
		return api.Value{}, 0, e, at
	}
	return v, at + len(one), api.OK, 0
}

// checkSkip holds what Skip answers against what is worked out in another way.
func checkSkip(t *testing.T, text string, at int) {
	t.Helper()
	from := min(max(at, 0), len(text))
	if got, want := tlex.Skip(text, at, false), from+len(plainGap.FindString(text[from:])); got != want {
		t.Fatalf("P10.1: Skip(%q, %d, false): %d, want %d", text, at, got, want)
	}
	if got, want := tlex.Skip(text, at, true), from+len(linesGap.FindString(text[from:])); got != want {
		t.Fatalf("P10.1: Skip(%q, %d, true): %d, want %d", text, at, got, want)
	}
}

// checkKey holds what Key answers against what is worked out in another way.
func checkKey(t *testing.T, text string, at int) {
	t.Helper()
	wantParts, wantNext, wantBad := expectedKey(text, at)
	if parts, next, bad := tlex.Key(text, at); !slices.Equal(parts, wantParts) || next != wantNext || bad != wantBad {
		t.Fatalf("P10.1: Key(%q, %d): %q, %d, %d, want %q, %d, %d", text, at, parts, next, bad, wantParts, wantNext, wantBad)
	}
}

// checkPlain holds what Plain answers against what is worked out in another way; what it answers may be.
func checkPlain(t *testing.T, text string, at int) {
	t.Helper()
	want, wantNext, wantErr, wantBad := expectedPlain(text, at)
	if v, next, e, bad := tlex.Plain(text, at); !value.Same(v, want) || next != wantNext || e != wantErr || bad != wantBad || !value.Good(v) {
		t.Fatalf("P10.4: Plain(%q, %d): %+v, %d, %d, %d, want %+v, %d, %d, %d", text, at, v, next, e, bad, want, wantNext, wantErr, wantBad)
	}
}

// checkNumber holds what Number and Stamp answer against what is worked out in another way.
func checkNumber(t *testing.T, s string) {
	t.Helper()
	want, wantErr := expectedNumber(s)
	if v, e := tlex.Number(s); !value.Same(v, want) || e != wantErr || !value.Good(v) {
		t.Fatalf("P10.2: Number(%q): %+v, %d, want %+v, %d", s, v, e, want, wantErr)
	}
	if got := tlex.Stamp(s); got != expectedStamp(s) {
		t.Fatalf("P10.3: Stamp(%q): %v", s, got)
	}
}

// checkAt holds all that is told of a place in a text against what is worked out in another way.
func checkAt(t *testing.T, text string, at int) {
	t.Helper()
	checkSkip(t, text, at)
	checkKey(t, text, at)
	checkPlain(t, text, at)
}

// sequences are all texts of up to n of the parts.
func sequences(parts []string, n int) []string {
	all := []string{""}
	from := 0
	for range n {
		to := len(all)
		for _, s := range all[from:to] {
			for _, p := range parts {
				all = append(all, s+p)
			}
		}
		from = to
	}
	return all
}

// Each text of a few of the bytes that make a difference.
func TestEveryShortText(t *testing.T) {
	for _, s := range sequences([]string{" ", "\t", "\n", "\r", "#", "x"}, 6) {
		checkSkip(t, s, 0)
	}
	for _, s := range sequences([]string{"a", "-", ".", " ", "\t", "\n", `"`, "'", `\`, "\u20ac"}, 5) {
		checkKey(t, s, 0)
	}
	for _, s := range sequences([]string{"0", "1", "_", "+", "-", ".", "e", "E"}, 6) {
		checkNumber(t, s)
	}
	for _, s := range sequences([]string{"0", "1", "7", "_", "x", "o", "b", "f", "F", "-"}, 5) {
		checkNumber(t, s)
	}
	for _, s := range sequences([]string{"inf", "nan", "+", "-", "i", "n", "1", "_"}, 5) {
		checkNumber(t, s)
	}
	for _, s := range sequences([]string{"2023-02-28", "2023-02-29", "T", " ", "07:32:00", "24:00:00", ".5", "Z", "+07:00", "-24:00"}, 5) {
		checkNumber(t, s)
		checkPlain(t, s, 0)
	}
	for _, s := range sequences([]string{"true", "false", "inf", "1", ".", "-", " ", ",", `"`, "'", "\n", "\xff"}, 4) {
		for at := -1; at <= len(s)+1; at++ {
			checkAt(t, s, at)
		}
	}
}

// Each byte, in every place where it could make a difference.
func TestEveryByte(t *testing.T) {
	for b := range 256 {
		x := string([]byte{byte(b)})
		for _, s := range []string{x, x + x, " " + x, x + " ", "\n" + x, "\r" + x, "\r" + x + "\n", "#" + x, "#" + x + "\n", "a" + x, x + "a", "a" + x + "b", "a." + x, "a" + x + ".b", "a." + x + "b", `"a"` + x, `"a"` + x + `.b`, `"` + x + `"`, "'" + x + "'", "''" + x, `""` + x, "true" + x, x + "true", "tr" + x + "e", "1979-05-27" + x, "1979-05-27" + x + "07:32:00", "1979-05-27 " + x, "1979-05-27 07:32:00" + x, "1979-05-27 07:32:00" + x + "07:00"} {
			for at := range len(s) + 1 {
				checkAt(t, s, at)
			}
		}
		for _, s := range []string{"1", "10", "-1.5", "+1_0.0_5e-1_0", "0x1F", "0o17", "0b101", "inf", "-nan", "1979-05-27", "07:32:00.125", "1979-05-27T07:32:00.5+07:30", "1979-05-27 07:32:00Z"} {
			for i := range len(s) + 1 {
				checkNumber(t, s[:i]+x+s[i:])
				checkPlain(t, s[:i]+x+s[i:], 0)
				if i < len(s) {
					checkNumber(t, s[:i]+x+s[i+1:])
					checkPlain(t, s[:i]+x+s[i+1:], 0)
				}
			}
		}
	}
}

// Texts made at random of parts that make a difference, read from each of their places.
func TestGrown(t *testing.T) {
	random := rand.New(rand.NewSource(10))
	parts := []string{"a", "b-c", "_", ".", ".", " ", " ", "\t", "\n", "\r\n", "\r", "#", "=", ",", "]", `"`, `""`, `"a"`, `"""`, "'", "'b'", "'''", `\n`, `\`, "0", "1", "9", "-", "+", "e", "E", "0x", "0o", "0b", "F", "inf", "nan", "true", "false", "1979-05-27", "2024-02-30", "07:32:00", "23:59:61", "T", "Z", ":", ".5", "-07:00", "9223372036854775807", "9223372036854775808", "e100001", "\u20ac", "\xff", "\x7f"}
	for range 20000 {
		text := ""
		for range random.Intn(10) {
			text += parts[random.Intn(len(parts))]
		}
		checkNumber(t, text)
		for at := -1; at <= len(text)+1; at++ {
			checkAt(t, text, at)
		}
	}
}

// TestPlainIsNumber: what Plain answers of a row is what Number does, and no more than the row.
func TestPlainIsNumber(t *testing.T) {
	random := rand.New(rand.NewSource(11))
	for range 50000 {
		row := ""
		for range 1 + random.Intn(6) {
			row += string(rowLetters[random.Intn(len(rowLetters))])
		}
		v, e := tlex.Number(row)
		got, next, err, bad := tlex.Plain("[ "+row+" ]", 2)
		if e != api.OK && (next != 0 || err != e || bad != 2) || e == api.OK && (next != 2+len(row) || err != e || bad != 0) || !value.Same(got, v) {
			t.Fatalf("P10.4: Plain of the row %q: %+v, %d, %d, %d, but Number: %+v, %d", row, got, next, err, bad, v, e)
		}
	}
}

// within tells whether a piece lies in a text's memory.
func within(text, piece string) bool {
	gap := uintptr(unsafe.Pointer(unsafe.StringData(piece))) - uintptr(unsafe.Pointer(unsafe.StringData(text)))
	return piece != "" && gap < uintptr(len(text))
}

// TestNewMemory: R4, no two answers share memory, and none keeps the text.
func TestNewMemory(t *testing.T) {
	for _, c := range keys {
		text := strings.Clone(c.text + " ")
		first, _, _ := tlex.Key(text, 0)
		for _, part := range first {
			if within(text, part) {
				t.Errorf("R4: Key(%q) answers a piece of the text itself: %q", short(text), short(part))
			}
		}
		second, _, _ := tlex.Key(text, 0)
		clear(first[:cap(first)])
		if !slices.Equal(second, c.parts) {
			t.Errorf("R4: two answers of Key(%q) share memory", short(text))
		}
	}
	texts := append(slices.Clone(stamps), `"a"`, "'a b'", "'''\na'''")
	for _, c := range numbers {
		texts = append(texts, c.text)
	}
	for _, s := range texts {
		text := strings.Clone(s + " ")
		if v, _, _, _ := tlex.Plain(text, 0); within(text, v.S) {
			t.Errorf("R4: Plain(%q) answers a piece of the text itself: %q", text, v.S)
		}
		if v, _ := tlex.Number(text[:len(s)]); within(text, v.S) {
			t.Errorf("R4: Number(%q) answers a piece of the text itself: %q", text, v.S)
		}
	}
}

func FuzzText(f *testing.F) {
	for _, c := range keys {
		f.Add(short(c.text)+" = 1", 0)
	}
	for _, c := range wrongKeys {
		f.Add("x"+c.right+c.rest, 1)
	}
	for _, c := range wrongStrings {
		f.Add(c.right+c.rest, 0)
	}
	for _, c := range numbers {
		f.Add(c.text, 0)
	}
	for _, s := range stamps {
		f.Add(s, 0)
	}
	for _, s := range append(noStamps, noNumbers...) {
		f.Add(s, 0)
	}
	f.Fuzz(func(t *testing.T, text string, at int) {
		checkNumber(t, text)
		checkAt(t, text, at)
	})
}
