package cprint_test

import (
	"encoding/csv"
	"math/rand"
	"strings"
	"testing"
	"unicode/utf8"

	"dragoman/api"
	"dragoman/cprint"
	"dragoman/cread"
	"dragoman/utf"
)

// bytewise writes a field byte by byte, and knows that it needs quotes only once it is through.
func bytewise(s string, alone bool) string {
	need := alone && len(s) == 0
	out := []byte{'"'}
	for at := range len(s) {
		switch s[at] {
		case '"':
			need = true
			out = append(out, '"', '"')
		case ',', 10, 13:
			need = true
			out = append(out, s[at])
		default:
			out = append(out, s[at])
		}
	}
	if need {
		return string(append(out, '"'))
	}
	return string(out[1:])
}

// second writes rows with what stands ahead of each field, not behind.
func second(rows [][]string) string {
	out := []byte{}
	for _, r := range rows {
		ahead := ""
		for _, field := range r {
			out = append(out, ahead+bytewise(field, len(r) < 2)...)
			ahead = ","
		}
		out = append(out, 13, 10)
	}
	return string(out)
}

// secondMay asks of all rows one bound, then the next.
func secondMay(rows [][]string, text string) bool {
	lengths := map[int]int{}
	for _, r := range rows {
		lengths[len(r)]++
		for _, field := range r {
			if _, ok := utf.Valid(field); !ok || len(field) > api.MaxStr {
				return false
			}
		}
	}
	for length := range lengths {
		if length == 0 || length > api.MaxCols {
			return false
		}
	}
	return len(lengths) <= 1 && len(rows) <= 1+api.MaxRows && len(text) <= api.MaxText
}

// checkRows holds rows against the second writer, and against the readers. Rows may be just if they are
// read back as they are: cread's limits are the same.
func checkRows(t *testing.T, rows [][]string) {
	t.Helper()
	want := second(rows)
	if secondMay(rows, want) {
		writes(t, rows, want)
		checkLibrary(t, rows, want)
		return
	}
	writesYet(t, rows, want)
	if back, fault := cread.Rows(want); fault.Err == api.OK && same(back, rows) {
		t.Errorf("P14.1: May(%s): false of rows that are read back", told(rows))
	}
}

// checkLibrary holds rows against the library's CSV, which takes no 13 as it stands.
func checkLibrary(t *testing.T, rows [][]string, text string) {
	t.Helper()
	for _, r := range rows {
		if strings.Contains(strings.Join(r, ""), "\r") {
			return
		}
	}
	back, err := csv.NewReader(strings.NewReader(text)).ReadAll()
	if err != nil || !same(back, rows) {
		t.Errorf("P14.2: the library reads %s as %s, %v, want %s", short(text), told(back), err, told(rows))
	}
}

// checkField holds a field against the second writer.
func checkField(t *testing.T, s string) {
	t.Helper()
	for _, alone := range []bool{false, true} {
		if got, want := cprint.Field(s, alone), bytewise(s, alone); got != want {
			t.Errorf("P14.1: Field(%s, %v): %s, want %s", short(s), alone, short(got), short(want))
		}
	}
}

// The second writer is right itself.
func TestSecondWriter(t *testing.T) {
	for _, c := range fields {
		if among, alone := bytewise(c.s, false), bytewise(c.s, true); among != c.among || alone != c.alone {
			t.Errorf("the second writer writes %q as %q, alone %q", c.s, among, alone)
		}
		checkField(t, c.s)
	}
	for _, c := range right {
		if text := second(c.rows); text != c.text || !secondMay(c.rows, text) {
			t.Errorf("the second writer writes %s as %q", told(c.rows), text)
		}
		checkRows(t, c.rows)
	}
	for _, c := range wrong {
		if text := second(c.rows); text != c.text || secondMay(c.rows, text) {
			t.Errorf("the second writer writes %s, which may not be, as %q", told(c.rows), text)
		}
		checkRows(t, c.rows)
	}
}

// everyShort are all texts of at most so many of these parts.
func everyShort(length int, parts ...string) []string {
	all, level := []string{""}, []string{""}
	for range length {
		next := []string{}
		for _, s := range level {
			for _, part := range parts {
				next = append(next, s+part)
			}
		}
		all = append(all, next...)
		level = next
	}
	return all
}

// Every short field of the parts that make a difference, alone and beside others.
func TestEveryShortText(t *testing.T) {
	texts := everyShort(6, "a", ",", `"`, "\n", "\r")
	texts = append(texts, everyShort(4, "a", ",", `"`, "\n", "\r", " ", "\u20ac", "\xff", "\xe2\x82", "\\")...)
	for _, s := range texts {
		checkField(t, s)
		checkRows(t, table(row(s)))
		checkRows(t, table(row(s, s), row("", s)))
	}
	for _, a := range everyShort(2, "a", ",", `"`, "\n", "\r") {
		for _, b := range everyShort(2, "a", ",", `"`, "\n", "\r") {
			checkRows(t, table(row(a, b)))
			checkRows(t, table(row(a), row(b)))
			checkRows(t, table(row(a, "x", b), row(b, "", a)))
		}
	}
}

// Every table of at most three rows of at most three fields, whatever each row's length.
func TestEveryShape(t *testing.T) {
	rows := [][]string{}
	for _, a := range []string{"", "a", "\xff"} {
		rows = append(rows, row(a))
		for _, b := range []string{"", ","} {
			rows = append(rows, row(a, b), row(b, a, b))
		}
	}
	rows = append(rows, nil, row())
	checkRows(t, nil)
	for _, a := range rows {
		checkRows(t, table(a))
		for _, b := range rows {
			checkRows(t, table(a, b))
			for _, c := range rows {
				checkRows(t, table(a, b, c))
			}
		}
	}
}

// Each byte, and each two, in every place where they could make a difference.
func TestEveryByte(t *testing.T) {
	for b := range 256 {
		x := string([]byte{byte(b)})
		for _, s := range []string{x, x + "a", "a" + x, "a" + x + "b", "," + x, x + ",", `"` + x, x + `"`, "\n" + x, x + "\n", "\r" + x, x + "\r", x + x, "a long text with " + x + " in it"} {
			checkField(t, s)
			checkRows(t, table(row(s)))
			checkRows(t, table(row("", s, ""), row(s, s, s)))
		}
		for other := range 256 {
			s := x + string([]byte{byte(other)})
			checkField(t, s)
			checkRows(t, table(row(s)))
		}
	}
}

// Each letter is left as it is, but for the four; and is read back.
func TestEveryLetter(t *testing.T) {
	for r := rune(0); r <= utf8.MaxRune; r++ {
		x := string(r)
		if !utf8.ValidRune(r) || strings.Contains(",\"\r\n", x) {
			continue
		}
		if got := cprint.Field(x, true); got != x {
			t.Fatalf("P14.1: Field(%q): %q", x, got)
		}
		rows := table(row(x, x+`"`))
		text := cprint.Print(rows)
		if !cprint.May(rows) || text != x+`,"`+x+"\"\"\"\r\n" {
			t.Fatalf("P14.1: %q: %v, %q", rows, cprint.May(rows), text)
		}
		if back, fault := cread.Rows(text); fault != (api.Fault{}) || !same(back, rows) {
			t.Fatalf("P14.2: %q are read back as %q, %+v", rows, back, fault)
		}
	}
}

// grown is a table.
func grown(random *rand.Rand) [][]string {
	pieces := []string{"", "a", "b", " ", ",", `"`, "\n", "\r", "\r\n", "\u20ac", "\U0001F600", "\x00", `""`, `","`}
	rows, cols := [][]string{}, 1+random.Intn(5)
	for range random.Intn(6) {
		r := []string{}
		for range cols {
			field := ""
			for range random.Intn(4) {
				field += pieces[random.Intn(len(pieces))]
			}
			r = append(r, field)
		}
		rows = append(rows, r)
	}
	return rows
}

// spoil alters one part of a table.
func spoil(random *rand.Rand, rows [][]string) [][]string {
	if len(rows) == 0 {
		return table(nil)
	}
	at := random.Intn(len(rows))
	in := random.Intn(len(rows[at]))
	switch random.Intn(5) {
	case 0:
		rows[at] = append(rows[at], "")
	case 1:
		rows[at] = rows[at][:in]
	case 2:
		rows[at][in] += "\xff"
	case 3:
		rows[at][in] = "\xe2\x82" + rows[at][in]
	case 4:
		rows[at][in] += strings.Repeat("x", api.MaxStr+1)
	}
	return rows
}

// TestGrown: tables, whole and with a part spoilt, are what the second writer tells.
func TestGrown(t *testing.T) {
	random := rand.New(rand.NewSource(14))
	for range 30000 {
		rows := grown(random)
		checkRows(t, rows)
		checkRows(t, spoil(random, rows))
	}
}

// TestGrownLong: as TestGrown, but about the limits.
func TestGrownLong(t *testing.T) {
	random := rand.New(rand.NewSource(15))
	long := strings.Repeat("x", api.MaxStr)
	parts := []string{"", "a", ",", long, long[1:], long + "x", long[1:] + `"`, strings.Repeat(`"`, api.MaxStr), strings.Repeat("\u20ac", api.MaxStr/3), long[:100], long[:1000]}
	for range 1500 {
		cols := []int{1, 2, api.MaxCols - 1, api.MaxCols, api.MaxCols + 1}[random.Intn(5)]
		height := []int{1, 8, 16, 17, api.MaxRows, api.MaxRows + 1, api.MaxRows + 2}[random.Intn(7)]
		rows := tall(height, wide(cols, "")...)
		for range random.Intn(20) {
			at := random.Intn(height)
			// The rows are one piece of memory till they are altered.
			rows[at] = append([]string{}, rows[at]...)
			rows[at][random.Intn(cols)] = parts[random.Intn(len(parts))]
		}
		checkRows(t, rows)
	}
}

// cut makes a table of a text: `|` ends a field, `;` a row.
func cut(text string) [][]string {
	rows := [][]string{}
	for part := range strings.SplitSeq(text, ";") {
		rows = append(rows, strings.Split(part, "|"))
	}
	return rows
}

func FuzzText(f *testing.F) {
	for _, c := range fields {
		f.Add(c.s)
	}
	for _, c := range right {
		parts := []string{}
		for _, r := range c.rows {
			parts = append(parts, strings.Join(r, "|"))
		}
		f.Add(strings.Join(parts, ";"))
	}
	f.Fuzz(func(t *testing.T, text string) {
		checkField(t, text)
		checkRows(t, table(row(text)))
		checkRows(t, cut(text))
	})
}
