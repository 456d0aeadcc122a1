package cread_test

import (
	"encoding/csv"
	"fmt"
	"math/rand"
	"strings"
	"testing"
	"unicode/utf8"

	"dragoman/api"
	"dragoman/cread"
)

// Where the byte reader is.
const (
	atBegin = iota // of a field
	inPlain
	inQuotes
	behindQuote // it may be the last, or one of two
	behindReturn
)

// bytewise reads CSV byte by byte, with a state alone: so what is right is told in another way than by pieces.
type bytewise struct {
	state   int
	field   []byte
	fieldAt int
	quoted  bool
	row     []string
	rowAt   int
	rows    [][]string
	bad     int
	err     api.Errno
}

// fault keeps a fault, and tells that there is one.
func (b *bytewise) fault(at int, e api.Errno) bool {
	b.bad, b.err = at, e
	return true
}

// endField ends a field, and tells whether there is a fault.
func (b *bytewise) endField() bool {
	b.row = append(b.row, string(b.field))
	return len(b.field) > api.MaxStr && b.fault(b.fieldAt, api.ELIMIT)
}

// nextField begins a field, and tells whether there is a fault.
func (b *bytewise) nextField(at int) bool {
	b.state, b.field, b.fieldAt, b.quoted = atBegin, nil, at, false
	return len(b.row) >= api.MaxCols && b.fault(at, api.ELIMIT)
}

// endRow ends a row, and tells whether there is a fault.
func (b *bytewise) endRow() bool {
	b.rows = append(b.rows, b.row)
	return len(b.row) != len(b.rows[0]) && b.fault(b.rowAt, api.EROW)
}

// nextRow begins a row, and tells whether there is a fault.
func (b *bytewise) nextRow(at int) bool {
	b.row, b.rowAt = nil, at
	return len(b.rows) > api.MaxRows && b.fault(at, api.ELIMIT) || b.nextField(at)
}

// byteFault takes a byte, and tells whether there is a fault. A field in quotes ends only once a 13 behind it
// has shown to be of a row's end, any other ahead of the 13.
func (b *bytewise) byteFault(at int, c byte) bool {
	switch {
	case b.state == inQuotes && c != '"':
		b.field = append(b.field, c)
	case b.state == inQuotes:
		b.state = behindQuote
	case b.state == behindQuote && c == '"':
		b.field = append(b.field, c)
		b.state = inQuotes
	case b.state == behindReturn && c == '\n':
		return b.quoted && b.endField() || b.endRow()
	case b.state == behindReturn:
		return b.fault(at-1, api.ESYNTAX)
	case c == ',':
		return b.endField() || b.nextField(at+1)
	case c == '\n':
		return b.endField() || b.endRow()
	case c == '\r':
		b.state = behindReturn
		return !b.quoted && b.endField()
	case b.state == behindQuote, c == '"' && b.state != atBegin:
		return b.fault(at, api.ESYNTAX)
	case c == '"':
		b.state, b.quoted = inQuotes, true
	default:
		b.state = inPlain
		b.field = append(b.field, c)
	}
	return false
}

// endFault takes the text's end within a row, and tells whether there is a fault.
func (b *bytewise) endFault(at int) bool {
	switch b.state {
	case inQuotes:
		return b.fault(at, api.ESYNTAX)
	case behindReturn:
		return b.fault(at-1, api.ESYNTAX)
	}
	return b.endField() || b.endRow()
}

// textFault takes a text, and tells whether there is a fault.
func (b *bytewise) textFault(text string) bool {
	if len(text) > api.MaxText {
		return b.fault(len(text), api.ELIMIT)
	}
	for at := 0; at < len(text); {
		r, n := utf8.DecodeRuneInString(text[at:])
		if r == utf8.RuneError && n == 1 {
			return b.fault(at, api.EUTF)
		}
		at += n
	}
	rows := -1
	for at := range len(text) {
		if len(b.rows) != rows && b.nextRow(at) {
			return true
		}
		rows = len(b.rows)
		if b.byteFault(at, text[at]) {
			return true
		}
	}
	return len(b.rows) == rows && b.endFault(len(text))
}

// checkText holds a text's rows or fault against the second reader, and what is right against the library.
func checkText(t *testing.T, text string) {
	t.Helper()
	b := &bytewise{}
	if b.textFault(text) {
		refuses(t, text, b.bad, b.err)
		return
	}
	says(t, text, b.rows...)
	checkLibrary(t, text, b.rows)
}

// checkLibrary holds rows against the library's CSV, which passes over empty lines and takes no 13 as it stands.
func checkLibrary(t *testing.T, text string, want [][]string) {
	t.Helper()
	if strings.Contains(text, "\r") || strings.HasPrefix(text, "\n") || strings.Contains(text, "\n\n") {
		return
	}
	got, err := csv.NewReader(strings.NewReader(text)).ReadAll()
	if err != nil || !same(got, want) {
		t.Errorf("P13.1: the library reads %s as %.300s, %v, want %.300s", short(text), fmt.Sprintf("%q", got), err, fmt.Sprintf("%q", want))
	}
}

// The second reader is right itself.
func TestSecondReader(t *testing.T) {
	for _, c := range right {
		checkText(t, c.text)
	}
	for _, c := range wrong {
		checkText(t, c.right+c.rest)
	}
}

// Every short text of the parts that make a difference.
func TestEveryShortText(t *testing.T) {
	for _, c := range []struct {
		parts  []string
		length int
	}{
		{[]string{"a", ",", `"`, "\n", "\r"}, 7},
		{[]string{"a", ",", `"`, `""`, "\n", "\r\n", "\r", " ", "\u20ac"}, 5},
		{[]string{`"`, ",", "\n"}, 9},
		{[]string{"\r", "\n", `"`, `"a"`, "b,c"}, 6},
		{[]string{"a,b", "\n", ",", `"x,y"`, "\"\n\""}, 6},
		{[]string{"\xff", "\xe2", "\x82", "\xac", "\xef", "\xbf", "\xbd", `"`}, 5},
	} {
		level := []string{""}
		for range c.length + 1 {
			next := []string{}
			for _, s := range level {
				checkText(t, s)
				for _, part := range c.parts {
					next = append(next, s+part)
				}
			}
			level = next
		}
	}
}

// Each byte in every place where it could make a difference.
func TestEveryByte(t *testing.T) {
	for b := range 256 {
		x := string([]byte{byte(b)})
		for _, s := range []string{x, x + "a", "a" + x, "a" + x + "b", "," + x, x + ",", `"` + x + `"`, `"` + x, `"a` + x + `b"`, `"a"` + x, `"a"` + x + "\n", `"""` + x + `"`, `""` + x, "a\r" + x, `"a"` + "\r" + x, "a\n" + x, "a\r\n" + x, "a,b\n" + x, "a,b\n" + x + "\n", "\r" + x + "\n", x + x} {
			checkText(t, s)
		}
		for other := range 256 {
			checkText(t, x+string([]byte{byte(other)}))
		}
	}
}

// Each letter, within quotes and without.
func TestEveryLetter(t *testing.T) {
	for r := rune(128); r <= utf8.MaxRune; r++ {
		if !utf8.ValidRune(r) {
			continue
		}
		x := string(r)
		got, fault := cread.Rows(x + `,"` + x + `"`)
		if fault != (api.Fault{}) || len(got) != 1 || len(got[0]) != 2 || got[0][0] != x || got[0][1] != x {
			t.Fatalf("P13.1: Rows of %q plain and in quotes: %q, %+v", x, got, fault)
		}
		if got, fault := cread.Rows(x + `"`); len(got) != 0 || fault != (api.Fault{Err: api.ESYNTAX, At: len(x), Line: 1, Col: 2}) {
			t.Fatalf("P13.1: Rows of %q with a quote behind it: %q, %+v", x, got, fault)
		}
	}
}

// spelt is a field, in quotes where it must be and sometimes where it need not be.
func spelt(random *rand.Rand, s string) string {
	if strings.ContainsAny(s, ",\"\r\n") || random.Intn(3) == 0 {
		return `"` + strings.ReplaceAll(s, `"`, `""`) + `"`
	}
	return s
}

// grown is a table and a text that says it.
func grown(random *rand.Rand) (string, [][]string) {
	pieces := []string{"", "a", "b", " ", ",", `"`, "\n", "\r", "\r\n", "\u20ac", "\U0001F600", "\x00", `""`, `","`}
	rows, cols := random.Intn(6), 1+random.Intn(5)
	text, table, ends := "", [][]string{}, []string{"\n", "\r\n"}
	for range rows {
		fields, spellings := []string{}, []string{}
		for range cols {
			field := ""
			for range random.Intn(4) {
				field += pieces[random.Intn(len(pieces))]
			}
			fields = append(fields, field)
			spellings = append(spellings, spelt(random, field))
		}
		table = append(table, fields)
		text += strings.Join(spellings, ",") + ends[random.Intn(2)]
	}
	return text, table
}

// TestGrown: tables written down are read back; with a part spoilt they are what the second reader tells.
func TestGrown(t *testing.T) {
	random := rand.New(rand.NewSource(13))
	spoilt := []string{"", "a", ",", `"`, "\n", "\r", "\r\n", " ", "\xff", "\u20ac", `""`, `","`, ",\n"}
	for range 30000 {
		text, table := grown(random)
		says(t, text, table...)
		checkText(t, text)
		from := random.Intn(len(text) + 1)
		to := min(len(text), from+random.Intn(3))
		checkText(t, text[:from]+spoilt[random.Intn(len(spoilt))]+text[to:])
	}
}

// TestGrownLong: as TestGrown, but about the limits.
func TestGrownLong(t *testing.T) {
	random := rand.New(rand.NewSource(14))
	long := strings.Repeat("x", api.MaxStr-1)
	parts := []string{"a", ",", "\n", "\r\n", `"`, `""`, `"b"`, "a\n", long, long, `"` + long + `"`, `"` + long, strings.Repeat(",", api.MaxCols-2), strings.Repeat("a\n", api.MaxRows-1), strings.Repeat("\r\n", api.MaxRows), "\r", "\u20ac", strings.Repeat(`""`, api.MaxStr), strings.Repeat(long+"\n", 15)}
	for range 6000 {
		text := ""
		for range random.Intn(9) {
			text += parts[random.Intn(len(parts))]
		}
		checkText(t, text)
	}
}

func FuzzText(f *testing.F) {
	for _, c := range right {
		f.Add(c.text)
	}
	for _, c := range wrong {
		f.Add(c.right + c.rest)
	}
	f.Fuzz(checkText)
}
