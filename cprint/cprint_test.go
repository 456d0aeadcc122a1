package cprint_test

import (
	"fmt"
	"slices"
	"strings"
	"testing"
	"unsafe"

	"dragoman/api"
	"dragoman/cprint"
	"dragoman/cread"
)

// short tells a head, so that what is long can be told.
func short(s string) string {
	if len(s) <= 80 {
		return fmt.Sprintf("%q", s)
	}
	return fmt.Sprintf("%q and so on, %d bytes", s[:80], len(s))
}

// told tells rows, the first of them.
func told(rows [][]string) string {
	if len(rows) <= 4 {
		return fmt.Sprintf("%.300s", fmt.Sprintf("%q", rows))
	}
	return fmt.Sprintf("%.300s and so on, %d rows", fmt.Sprintf("%q", rows[:4]), len(rows))
}

// table is a table of these rows.
func table(rows ...[]string) [][]string { return rows }

// row is a row of these fields.
func row(fields ...string) []string { return fields }

// same tells whether rows are the same, field by field.
func same(a, b [][]string) bool {
	return slices.EqualFunc(a, b, func(x, y []string) bool { return slices.Equal(x, y) })
}

// prints tells that rows are written as just this text.
func prints(t *testing.T, rows [][]string, want string) {
	t.Helper()
	if got := cprint.Print(rows); got != want {
		t.Errorf("P14.1: Print(%s): %s, want %s", told(rows), short(got), short(want))
	}
}

// writes tells that rows may be CSV, are written as just this text, and read back as they are.
func writes(t *testing.T, rows [][]string, want string) {
	t.Helper()
	if !cprint.May(rows) {
		t.Errorf("P14.1: May(%s): false of rows that may be", told(rows))
	}
	prints(t, rows, want)
	if back, fault := cread.Rows(want); fault != (api.Fault{}) || !same(back, rows) {
		t.Errorf("P14.2: %s are read back as %s, %+v", told(rows), told(back), fault)
	}
}

// writesYet tells that rows may not be CSV, and are written as just this text all the same.
func writesYet(t *testing.T, rows [][]string, want string) {
	t.Helper()
	if cprint.May(rows) {
		t.Errorf("P14.1: May(%s): true of rows that may not be", told(rows))
	}
	prints(t, rows, want)
}

// fields are fields, with what they are written as: of a row of more than one, and alone.
var fields = []struct{ s, among, alone string }{
	{"", "", `""`},
	// Left as they are.
	{"a", "a", "a"}, {"ab", "ab", "ab"}, {" ", " ", " "}, {" a ", " a ", " a "}, {"\t", "\t", "\t"}, {"'", "'", "'"}, {"'a'", "'a'", "'a'"}, {";", ";", ";"}, {"|", "|", "|"}, {`\`, `\`, `\`}, {`\n`, `\n`, `\n`}, {`\.`, `\.`, `\.`}, {"#a", "#a", "#a"}, {"=1+2", "=1+2", "=1+2"}, {"null", "null", "null"}, {"-1.5e3", "-1.5e3", "-1.5e3"}, {"[]", "[]", "[]"}, {"\x00", "\x00", "\x00"}, {"\x0b\x0c", "\x0b\x0c", "\x0b\x0c"}, {"\x7f", "\x7f", "\x7f"}, {"\ufeff", "\ufeff", "\ufeff"}, {"\u0085\u2028\u2029", "\u0085\u2028\u2029", "\u0085\u2028\u2029"}, {"\u201c\u201d\uff0c\uff02", "\u201c\u201d\uff0c\uff02", "\u201c\u201d\uff0c\uff02"}, {"\u20ac", "\u20ac", "\u20ac"}, {"\U0001F600", "\U0001F600", "\U0001F600"}, {"\ufffd", "\ufffd", "\ufffd"}, {"\U0010FFFF", "\U0010FFFF", "\U0010FFFF"},
	// A comma: all of it, at the beginning, within, at the end.
	{",", `","`, `","`}, {",a", `",a"`, `",a"`}, {"a,b", `"a,b"`, `"a,b"`}, {"a,", `"a,"`, `"a,"`}, {",,", `",,"`, `",,"`}, {"b,c", `"b,c"`, `"b,c"`},
	// A 10.
	{"\n", "\"\n\"", "\"\n\""}, {"\na", "\"\na\"", "\"\na\""}, {"a\nb", "\"a\nb\"", "\"a\nb\""}, {"a\n", "\"a\n\"", "\"a\n\""}, {"\n\n", "\"\n\n\"", "\"\n\n\""},
	// A 13.
	{"\r", "\"\r\"", "\"\r\""}, {"\ra", "\"\ra\"", "\"\ra\""}, {"a\rb", "\"a\rb\"", "\"a\rb\""}, {"a\r", "\"a\r\"", "\"a\r\""}, {"\r\r", "\"\r\r\"", "\"\r\r\""},
	// A quote, written twice.
	{`"`, `""""`, `""""`}, {`"a`, `"""a"`, `"""a"`}, {`a"b`, `"a""b"`, `"a""b"`}, {`a"`, `"a"""`, `"a"""`}, {`""`, `""""""`, `""""""`}, {`"""`, `""""""""`, `""""""""`}, {`"a"`, `"""a"""`, `"""a"""`}, {`a"b"c`, `"a""b""c"`, `"a""b""c"`}, {`a""b`, `"a""""b"`, `"a""""b"`},
	// Together.
	{"\r\n", "\"\r\n\"", "\"\r\n\""}, {"\n\r", "\"\n\r\"", "\"\n\r\""}, {"a\r\nb", "\"a\r\nb\"", "\"a\r\nb\""}, {`,"`, `","""`, `","""`}, {`",`, `""","`, `""","`}, {`","`, `""","""`, `""","""`}, {"\"\n", "\"\"\"\n\"", "\"\"\"\n\""}, {"\"\r", "\"\"\"\r\"", "\"\"\"\r\""}, {",\n", "\",\n\"", "\",\n\""}, {",\r", "\",\r\"", "\",\r\""}, {"\",\n\r", "\"\"\",\n\r\"", "\"\"\",\n\r\""}, {"a,b\nc\rd\"e", "\"a,b\nc\rd\"\"e\"", "\"a,b\nc\rd\"\"e\""}, {"\u20ac\"\u20ac", "\"\u20ac\"\"\u20ac\"", "\"\u20ac\"\"\u20ac\""},
	// Bytes that begin no letter are written, too.
	{"\xff", "\xff", "\xff"}, {"a\x80", "a\x80", "a\x80"}, {"\xe2\x82", "\xe2\x82", "\xe2\x82"}, {"\xff,", "\"\xff,\"", "\"\xff,\""}, {"\xff\"\xfe", "\"\xff\"\"\xfe\"", "\"\xff\"\"\xfe\""}, {"\xe2\n", "\"\xe2\n\"", "\"\xe2\n\""},
}

func TestField(t *testing.T) {
	for _, c := range fields {
		if got := cprint.Field(c.s, false); got != c.among {
			t.Errorf("P14.1: Field(%q) not alone: %q, want %q", c.s, got, c.among)
		}
		if got := cprint.Field(c.s, true); got != c.alone {
			t.Errorf("P14.1: Field(%q) alone: %q, want %q", c.s, got, c.alone)
		}
	}
}

// TestFieldPlaces: each byte that asks for quotes, at each place of a field of any length.
func TestFieldPlaces(t *testing.T) {
	for length := range 40 {
		plain := strings.Repeat("x", length)
		for at := range length + 1 {
			for _, c := range []struct{ s, want string }{{",", ","}, {"\n", "\n"}, {"\r", "\r"}, {`"`, `""`}} {
				s, want := plain[:at]+c.s+plain[at:], `"`+plain[:at]+c.want+plain[at:]+`"`
				for _, alone := range []bool{false, true} {
					if got := cprint.Field(s, alone); got != want {
						t.Errorf("P14.1: Field(%q, %v): %q, want %q", s, alone, got, want)
					}
				}
			}
		}
	}
}

// right are rows that may be CSV, with their text.
var right = []struct {
	rows [][]string
	text string
}{
	// The chapter's example.
	{table(row("a", "b,c")), "a,\"b,c\"\r\n"},
	// No rows.
	{nil, ""}, {table(), ""},
	// One row of one field, and of many.
	{table(row("a")), "a\r\n"}, {table(row("")), "\"\"\r\n"}, {table(row("a", "b")), "a,b\r\n"}, {table(row("a", "b", "c", "d")), "a,b,c,d\r\n"}, {table(row("b", "a", "b")), "b,a,b\r\n"}, {table(row("null", "1", "true")), "null,1,true\r\n"},
	// Many rows, each ended, the last one too.
	{table(row("a"), row("b")), "a\r\nb\r\n"}, {table(row("a"), row("a"), row("a")), "a\r\na\r\na\r\n"}, {table(row("a", "b"), row("1", "2")), "a,b\r\n1,2\r\n"}, {table(row("a", "b"), row("1", "2"), row("3", "4")), "a,b\r\n1,2\r\n3,4\r\n"}, {table(row("b"), row("a")), "b\r\na\r\n"},
	// Empty fields: alone, first, last, between, all.
	{table(row(""), row("")), "\"\"\r\n\"\"\r\n"}, {table(row(""), row("x")), "\"\"\r\nx\r\n"}, {table(row("x"), row("")), "x\r\n\"\"\r\n"}, {table(row("x"), row(""), row("y")), "x\r\n\"\"\r\ny\r\n"}, {table(row("", "")), ",\r\n"}, {table(row("", "", "")), ",,\r\n"}, {table(row("", "a")), ",a\r\n"}, {table(row("a", "")), "a,\r\n"}, {table(row("a", "", "b")), "a,,b\r\n"}, {table(row("", "a", "")), ",a,\r\n"}, {table(row("", ""), row("", "")), ",\r\n,\r\n"}, {table(row("a", "b"), row("", ""), row("c", "d")), "a,b\r\n,\r\nc,d\r\n"},
	// Fields in quotes.
	{table(row(`"`)), "\"\"\"\"\r\n"}, {table(row(",", ",")), "\",\",\",\"\r\n"}, {table(row("\n")), "\"\n\"\r\n"}, {table(row("\r")), "\"\r\"\r\n"}, {table(row("\r\n")), "\"\r\n\"\r\n"}, {table(row("\r\n"), row("\r\n")), "\"\r\n\"\r\n\"\r\n\"\r\n"}, {table(row("a", `b"c`)), "a,\"b\"\"c\"\r\n"}, {table(row(`a"`, `"b`)), "\"a\"\"\",\"\"\"b\"\r\n"}, {table(row("a\nb", "c"), row("d", "e\rf")), "\"a\nb\",c\r\nd,\"e\rf\"\r\n"}, {table(row("", `"`, "")), ",\"\"\"\",\r\n"}, {table(row(`""`)), "\"\"\"\"\"\"\r\n"}, {table(row(`","`, "")), "\"\"\",\"\"\",\r\n"},
	// All else is as it stands.
	{table(row(" a ", " \tb")), " a , \tb\r\n"}, {table(row(" ")), " \r\n"}, {table(row("'a'", "'b'")), "'a','b'\r\n"}, {table(row(`\`, `\n`)), "\\,\\n\r\n"}, {table(row("a;b")), "a;b\r\n"}, {table(row("\x00")), "\x00\r\n"}, {table(row("\u20ac", "\U0001F600"), row("\u00e9", "\ufffd")), "\u20ac,\U0001F600\r\n\u00e9,\ufffd\r\n"}, {table(row("\ufeffa", "b")), "\ufeffa,b\r\n"}, {table(row("\u2028")), "\u2028\r\n"},
}

func TestPrint(t *testing.T) {
	for _, c := range right {
		writes(t, c.rows, c.text)
	}
}

// TestMoreRows: what the rows ahead say alters nothing of how a row is written.
func TestMoreRows(t *testing.T) {
	for _, a := range right {
		for _, b := range right {
			rows, text := slices.Concat(a.rows, b.rows), a.text+b.text
			if len(a.rows) > 0 && len(b.rows) > 0 && len(a.rows[0]) != len(b.rows[0]) {
				writesYet(t, rows, text)
				continue
			}
			writes(t, rows, text)
		}
	}
}

// TestFieldsInRows: each field, in each place of a row, beside each other one.
func TestFieldsInRows(t *testing.T) {
	written := func(rows [][]string, text string, whole bool) {
		t.Helper()
		if whole {
			writes(t, rows, text)
			return
		}
		writesYet(t, rows, text)
	}
	for _, a := range fields {
		valid := strings.ToValidUTF8(a.s, "") == a.s
		written(table(row(a.s)), a.alone+"\r\n", valid)
		written(table(row("x"), row(a.s), row("y")), "x\r\n"+a.alone+"\r\ny\r\n", valid)
		for _, b := range fields {
			both := valid && strings.ToValidUTF8(b.s, "") == b.s
			written(table(row(a.s, b.s)), a.among+","+b.among+"\r\n", both)
			written(table(row(a.s), row(b.s)), a.alone+"\r\n"+b.alone+"\r\n", both)
			written(table(row("x", a.s, b.s), row(b.s, "", a.s)), "x,"+a.among+","+b.among+"\r\n"+b.among+",,"+a.among+"\r\n", both)
		}
	}
}

// wrong are rows that may not be CSV, with the text that they have all the same.
var wrong = []struct {
	rows [][]string
	text string
}{
	// A row without fields.
	{table(nil), "\r\n"}, {table(row()), "\r\n"}, {table(nil, nil), "\r\n\r\n"}, {table(row("a"), nil), "a\r\n\r\n"}, {table(nil, row("a")), "\r\na\r\n"}, {table(row(""), row()), "\"\"\r\n\r\n"}, {table(nil, row("")), "\r\n\"\"\r\n"}, {table(row("a", "b"), row(), row("c", "d")), "a,b\r\n\r\nc,d\r\n"},
	// Fewer fields than the first, and more.
	{table(row("a", "b"), row("c")), "a,b\r\nc\r\n"}, {table(row("a"), row("b", "c")), "a\r\nb,c\r\n"}, {table(row("a", "b"), row("")), "a,b\r\n\"\"\r\n"}, {table(row(""), row("", "")), "\"\"\r\n,\r\n"}, {table(row("", ""), row("")), ",\r\n\"\"\r\n"}, {table(row("a"), row("b"), row("c", "d")), "a\r\nb\r\nc,d\r\n"}, {table(row("a", "b", "c"), row("d", "e"), row("f", "g", "h")), "a,b,c\r\nd,e\r\nf,g,h\r\n"}, {table(row("a", "b"), row("a,b")), "a,b\r\n\"a,b\"\r\n"}, {table(row("a,b"), row("a", "b")), "\"a,b\"\r\na,b\r\n"}, {table(row("a", "b"), row("c", "d", "e"), row("f", "g")), "a,b\r\nc,d,e\r\nf,g\r\n"}, {table(row("a", "b"), row("c"), row("d")), "a,b\r\nc\r\nd\r\n"},
	// A byte that begins no letter: at the beginning, within, at the end, in quotes; in each place.
	{table(row("\xff")), "\xff\r\n"}, {table(row("\x80a")), "\x80a\r\n"}, {table(row("a\xffb")), "a\xffb\r\n"}, {table(row("a\xff")), "a\xff\r\n"}, {table(row("\xff,\"")), "\"\xff,\"\"\"\r\n"}, {table(row("a", "\xff")), "a,\xff\r\n"}, {table(row("\xff", "a")), "\xff,a\r\n"}, {table(row("a", "\xff", "b")), "a,\xff,b\r\n"}, {table(row("a"), row("\xff")), "a\r\n\xff\r\n"}, {table(row("\xff"), row("a")), "\xff\r\na\r\n"}, {table(row("a", "b"), row("c", "\xff"), row("e", "f")), "a,b\r\nc,\xff\r\ne,f\r\n"},
	{table(row("\xe2\x82")), "\xe2\x82\r\n"}, {table(row("\xc0\x80")), "\xc0\x80\r\n"}, {table(row("\xed\xa0\x80")), "\xed\xa0\x80\r\n"}, {table(row("\xf4\x90\x80\x80")), "\xf4\x90\x80\x80\r\n"}, {table(row("\u20ac\x82")), "\u20ac\x82\r\n"}, {table(row("\ufffd\xff")), "\ufffd\xff\r\n"},
	// A letter cut in two by a field's end.
	{table(row("\xe2", "\x82\xac")), "\xe2,\x82\xac\r\n"}, {table(row("\xe2"), row("\x82\xac")), "\xe2\r\n\x82\xac\r\n"},
}

func TestMayNot(t *testing.T) {
	for _, c := range wrong {
		writesYet(t, c.rows, c.text)
	}
}

// TestMayNotAnywhere: rows that may not be are no better with others ahead of them or behind.
func TestMayNotAnywhere(t *testing.T) {
	for _, a := range wrong {
		for _, b := range right {
			writesYet(t, slices.Concat(a.rows, b.rows), a.text+b.text)
			writesYet(t, slices.Concat(b.rows, a.rows), b.text+a.text)
		}
		for _, b := range wrong {
			writesYet(t, slices.Concat(a.rows, b.rows), a.text+b.text)
		}
	}
}

// roomy is a copy with spare room in each list, filled.
func roomy(rows [][]string) [][]string {
	var all [][]string
	for _, r := range rows {
		all = append(all, append(slices.Clone(r), "spare", "room")[:len(r)])
	}
	return append(all, row("spare"), nil, row("room"))[:len(rows)]
}

// withRoom is a copy in which spare room is not spare: all of it can be held against another.
func withRoom(rows [][]string) [][]string {
	var all [][]string
	for _, r := range rows[:cap(rows)] {
		all = append(all, slices.Clone(r[:cap(r)]))
	}
	return all
}

// TestUnchanged: rows that are handed in are not changed, spare room included, and what is told of them is
// the same each time.
func TestUnchanged(t *testing.T) {
	for _, c := range slices.Concat(right, wrong) {
		rows := roomy(c.rows)
		before := withRoom(rows)
		may, text := cprint.May(rows), cprint.Print(rows)
		if !same(withRoom(rows), before) {
			t.Errorf("R4: May and Print left %s as %q", told(c.rows), withRoom(rows))
		}
		if again := cprint.Print(rows); may != cprint.May(rows) || text != c.text || again != text {
			t.Errorf("R5: %s told again: %v %s, %v %s", told(c.rows), may, short(text), cprint.May(rows), short(again))
		}
	}
}

// TestRowsTwice: a row may stand in a table more than once, and a field in a row.
func TestRowsTwice(t *testing.T) {
	r := row("a", "a,", "a")
	writes(t, table(r, r, r), strings.Repeat("a,\"a,\",a\r\n", 3))
	if want := row("a", "a,", "a"); !slices.Equal(r, want) {
		t.Errorf("R4: a row that stands thrice is %q, want %q", r, want)
	}
}

// TestNewMemory: what is answered is no piece of what was handed in.
func TestNewMemory(t *testing.T) {
	for _, c := range fields {
		for _, alone := range []bool{false, true} {
			if s := strings.Clone(c.s); within(s, cprint.Field(s, alone)) {
				t.Errorf("R4: Field(%q, %v) is a piece of its argument", s, alone)
			}
		}
		s := strings.Clone(c.s)
		if within(s, cprint.Print(table(row(s)))) {
			t.Errorf("R4: Print of the field %q is a piece of it", s)
		}
	}
}

// within tells whether a piece lies in a text's memory.
func within(text, piece string) bool {
	if piece == "" {
		return false
	}
	begin := uintptr(unsafe.Pointer(unsafe.StringData(text)))
	at := uintptr(unsafe.Pointer(unsafe.StringData(piece)))
	return at >= begin && at < begin+uintptr(len(text))
}
