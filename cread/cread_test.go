package cread_test

import (
	"fmt"
	"slices"
	"strings"
	"testing"
	"unicode/utf8"
	"unsafe"

	"dragoman/api"
	"dragoman/cread"
)

// short tells a head, so that what is long can be told.
func short(s string) string {
	if len(s) <= 80 {
		return fmt.Sprintf("%q", s)
	}
	return fmt.Sprintf("%q and so on, %d bytes", s[:80], len(s))
}

// faultAt is a fault with its line and column.
func faultAt(text string, at int, e api.Errno) api.Fault {
	line := text[strings.LastIndexByte(text[:at], 10)+1 : at]
	return api.Fault{Err: e, At: at, Line: strings.Count(text[:at], "\n") + 1, Col: utf8.RuneCountInString(line) + 1}
}

// row is a row of these fields.
func row(fields ...string) []string { return fields }

// same tells whether rows are the same, field by field.
func same(a, b [][]string) bool {
	return slices.EqualFunc(a, b, func(x, y []string) bool { return slices.Equal(x, y) })
}

// says tells that a text is just these rows.
func says(t *testing.T, text string, want ...[]string) {
	t.Helper()
	got, fault := cread.Rows(text)
	if fault != (api.Fault{}) || !same(got, want) {
		t.Errorf("P13.1: Rows(%s): %.300s, %+v, want %.300s", short(text), fmt.Sprintf("%q", got), fault, fmt.Sprintf("%q", want))
	}
	if !cread.Valid(text) {
		t.Errorf("P13.1: Valid(%s): false of a text without a fault", short(text))
	}
}

// refuses tells that a text has just this fault, and no rows.
func refuses(t *testing.T, text string, at int, e api.Errno) {
	t.Helper()
	got, fault := cread.Rows(text)
	if want := faultAt(text, at, e); fault != want {
		t.Errorf("P13.1: Rows(%s): %.100s, %+v, want %+v", short(text), fmt.Sprintf("%q", got), fault, want)
	}
	if len(got) != 0 {
		t.Errorf("P13.1: Rows(%s): %.300s beside the fault %+v", short(text), fmt.Sprintf("%q", got), fault)
	}
	if cread.Valid(text) {
		t.Errorf("P13.1: Valid(%s): true of a text with a fault", short(text))
	}
}

// right are texts with their rows.
var right = []struct {
	text string
	want [][]string
}{
	// The chapter's example.
	{`a,"b""c"`, [][]string{{"a", `b"c`}}},
	// No rows, and rows of one empty field.
	{"", nil}, {"\n", [][]string{{""}}}, {"\r\n", [][]string{{""}}}, {"\n\n", [][]string{{""}, {""}}}, {"\r\n\n", [][]string{{""}, {""}}}, {"\n\r\n", [][]string{{""}, {""}}}, {"\n\n\n", [][]string{{""}, {""}, {""}}}, {`""`, [][]string{{""}}}, {"\"\"\n", [][]string{{""}}}, {"\n\"\"", [][]string{{""}, {""}}}, {"\n\"\"\n", [][]string{{""}, {""}}},
	// One row, ended and not.
	{"a", [][]string{{"a"}}}, {"a\n", [][]string{{"a"}}}, {"a\r\n", [][]string{{"a"}}}, {"a,b", [][]string{{"a", "b"}}}, {"a,b\n", [][]string{{"a", "b"}}}, {"a,b\r\n", [][]string{{"a", "b"}}}, {"a,b,c,d", [][]string{{"a", "b", "c", "d"}}}, {"b,a,b", [][]string{{"b", "a", "b"}}},
	// Many rows, ended by 10, by 13 10, by both.
	{"a\nb", [][]string{{"a"}, {"b"}}}, {"a\r\nb", [][]string{{"a"}, {"b"}}}, {"a\nb\n", [][]string{{"a"}, {"b"}}}, {"a\r\nb\r\n", [][]string{{"a"}, {"b"}}}, {"a\nb\r\nc", [][]string{{"a"}, {"b"}, {"c"}}}, {"a\r\nb\nc\r\n", [][]string{{"a"}, {"b"}, {"c"}}}, {"a,b\n1,2\n", [][]string{{"a", "b"}, {"1", "2"}}}, {"a,b\r\n1,2\n3,4", [][]string{{"a", "b"}, {"1", "2"}, {"3", "4"}}}, {"a\na\na", [][]string{{"a"}, {"a"}, {"a"}}}, {"a\n\nb\n", [][]string{{"a"}, {""}, {"b"}}}, {"\na", [][]string{{""}, {"a"}}}, {"a\n\n", [][]string{{"a"}, {""}}}, {"a\n\r\n", [][]string{{"a"}, {""}}},
	// Fields that are empty: first, last, between, all.
	{",", [][]string{{"", ""}}}, {",\n", [][]string{{"", ""}}}, {",,", [][]string{{"", "", ""}}}, {"a,", [][]string{{"a", ""}}}, {"a,\n", [][]string{{"a", ""}}}, {"a,\r\n", [][]string{{"a", ""}}}, {",a", [][]string{{"", "a"}}}, {"a,,b", [][]string{{"a", "", "b"}}}, {",a,", [][]string{{"", "a", ""}}}, {",\n,", [][]string{{"", ""}, {"", ""}}}, {",\r\n,\r\n", [][]string{{"", ""}, {"", ""}}}, {"a,b\n,", [][]string{{"a", "b"}, {"", ""}}}, {"a,b\n,\nc,d", [][]string{{"a", "b"}, {"", ""}, {"c", "d"}}},
	// Fields in quotes, with nothing, something, and another in them.
	{`"a"`, [][]string{{"a"}}}, {`"a","b"`, [][]string{{"a", "b"}}}, {`"a",b`, [][]string{{"a", "b"}}}, {`a,"b"`, [][]string{{"a", "b"}}}, {`"",""`, [][]string{{"", ""}}}, {`"",`, [][]string{{"", ""}}}, {`,""`, [][]string{{"", ""}}}, {`a,"",b`, [][]string{{"a", "", "b"}}}, {"\"a\"\n\"b\"\n", [][]string{{"a"}, {"b"}}}, {"\"a\"\r\n\"b\"\r\n", [][]string{{"a"}, {"b"}}}, {"\"a\",\"b\"\r\n\"c\",\"d\"", [][]string{{"a", "b"}, {"c", "d"}}}, {"a,\"\"\n", [][]string{{"a", ""}}},
	// Two quotes within quotes.
	{`""""`, [][]string{{`"`}}}, {`""""""`, [][]string{{`""`}}}, {`""""""""`, [][]string{{`"""`}}}, {`"a""b"`, [][]string{{`a"b`}}}, {`"""a"`, [][]string{{`"a`}}}, {`"a"""`, [][]string{{`a"`}}}, {`"""a"""`, [][]string{{`"a"`}}}, {`"a""""b"`, [][]string{{`a""b`}}}, {`"","""",""""""`, [][]string{{"", `"`, `""`}}}, {`""",""",a`, [][]string{{`","`, "a"}}}, {"\"\"\"\n\"\"\",a", [][]string{{"\"\n\"", "a"}}}, {"\"\"\"\"\n\"\"\"\"\r\n", [][]string{{`"`}, {`"`}}}, {`"a"",""b"`, [][]string{{`a","b`}}},
	// Lines' ends, 13 and commas within quotes.
	{"\"a,b\nc\r\nd\re\",x", [][]string{{"a,b\nc\r\nd\re", "x"}}}, {`","`, [][]string{{","}}}, {`",",","`, [][]string{{",", ","}}}, {"\"\n\"", [][]string{{"\n"}}}, {"\"\r\n\"", [][]string{{"\r\n"}}}, {"\"\r\"", [][]string{{"\r"}}}, {"\"\r\"\r\n\"\r\"", [][]string{{"\r"}, {"\r"}}}, {"\"\n\"\n\"\n\"\n", [][]string{{"\n"}, {"\n"}}}, {"\"a\n\nb\"\nc", [][]string{{"a\n\nb"}, {"c"}}}, {"\"\r\r\n\n\r\"", [][]string{{"\r\r\n\n\r"}}}, {"a,\"1\n2\"\r\n\"3\n4\",b", [][]string{{"a", "1\n2"}, {"3\n4", "b"}}}, {"\"\r\"\"\"", [][]string{{"\r\""}}}, {"\"\"\"\r\"", [][]string{{"\"\r"}}},
	// All else is as it stands.
	{" a , \tb", [][]string{{" a ", " \tb"}}}, {" ", [][]string{{" "}}}, {"\t\n ", [][]string{{"\t"}, {" "}}}, {`" a "`, [][]string{{" a "}}}, {"a;b|c", [][]string{{"a;b|c"}}}, {"'a','b'", [][]string{{"'a'", "'b'"}}}, {`\n,\`, [][]string{{`\n`, `\`}}}, {`"\"`, [][]string{{`\`}}}, {"#a\n=1", [][]string{{"#a"}, {"=1"}}}, {"null,1,true", [][]string{{"null", "1", "true"}}}, {"\x00,\x0b\x0c\x1f", [][]string{{"\x00", "\x0b\x0c\x1f"}}}, {"\"\x00\"", [][]string{{"\x00"}}}, {"\x7f", [][]string{{"\x7f"}}},
	// Letters of more bytes, those for lines' ends and quotes and commas elsewhere among them.
	{"\u20ac,\"\U0001F600\"\n\u00e9,\ufffd", [][]string{{"\u20ac", "\U0001F600"}, {"\u00e9", "\ufffd"}}}, {"\ufeffa,b", [][]string{{"\ufeffa", "b"}}}, {"\u2028\u2029\u0085", [][]string{{"\u2028\u2029\u0085"}}}, {"\u201ca\u201d\uff0cb", [][]string{{"\u201ca\u201d\uff0cb"}}}, {"a\u201c", [][]string{{"a\u201c"}}}, {"\U0010FFFF", [][]string{{"\U0010FFFF"}}},
}

func TestRows(t *testing.T) {
	for _, c := range right {
		says(t, c.text, c.want...)
	}
}

// TestMoreRows: how the rows ahead ended, and what stands in them, alters nothing of a row.
func TestMoreRows(t *testing.T) {
	for _, c := range right {
		ended := []string{c.text}
		if c.text != "" && !strings.HasSuffix(c.text, "\n") {
			ended = []string{c.text + "\n", c.text + "\r\n"}
		}
		for _, text := range ended {
			says(t, text, c.want...)
			says(t, text+c.text, slices.Concat(c.want, c.want)...)
			says(t, text+text, slices.Concat(c.want, c.want)...)
			says(t, text+text+c.text, slices.Concat(c.want, c.want, c.want)...)
		}
	}
}

// TestOneField: each field, in each of its spellings, in each place of a row, with each end.
func TestOneField(t *testing.T) {
	spellings := []struct{ text, says string }{
		{"", ""}, {`""`, ""}, {"a", "a"}, {`"a"`, "a"}, {" ", " "}, {`""""`, `"`}, {`","`, ","}, {"\"\n\"", "\n"}, {"\"\r\n\"", "\r\n"}, {"\"\r\"", "\r"}, {`"a""b"`, `a"b`}, {"\u20ac", "\u20ac"}, {"\"\u20ac\"", "\u20ac"}, {"'", "'"}, {`\`, `\`},
	}
	for _, a := range spellings {
		for _, b := range spellings {
			for _, c := range spellings {
				for _, end := range []string{"\n", "\r\n"} {
					text := a.text + "," + b.text + "," + c.text
					want := row(a.says, b.says, c.says)
					says(t, text, want)
					says(t, text+end, want)
					says(t, a.text+end+b.text+end+c.text+end, row(a.says), row(b.says), row(c.says))
					says(t, "x,y,z"+end+text+end+text, row("x", "y", "z"), want, want)
				}
			}
		}
	}
}

// wrong are texts that have a fault just behind what is right of them.
var wrong = []struct {
	right, rest string
	err         api.Errno
}{
	// The chapter's example.
	{"a,b\n", "c", api.EROW},
	// A byte that begins no letter: at the beginning, within quotes, at the end, ahead of all other faults.
	{"", "\xff", api.EUTF}, {"", "\x80a", api.EUTF}, {"a", "\xff", api.EUTF}, {"a,", "\xff,b", api.EUTF}, {"\"a", "\xff\"", api.EUTF}, {"\"", "\xff\"", api.EUTF}, {"\"a\"", "\xff", api.EUTF}, {"a\n", "\xff", api.EUTF}, {"a\r\n", "\xff\n", api.EUTF}, {"a", "\xe2\x82", api.EUTF}, {"", "\xc0\x80", api.EUTF}, {"", "\xed\xa0\x80", api.EUTF}, {"", "\xf4\x90\x80\x80", api.EUTF}, {"\u20ac", "\x82", api.EUTF}, {"\ufffd", "\xff", api.EUTF}, {"\n\u20ac\n\u20ac", "\xfe\xff", api.EUTF},
	{"a\"", "\xff", api.EUTF}, {"\"", "\xff", api.EUTF}, {"\"a\"b", "\xff", api.EUTF}, {"a\r", "\xff", api.EUTF}, {"\r", "\xff", api.EUTF}, {"a,b\nc\nd", "\xff", api.EUTF}, {"\"a\n", "\xff\xff", api.EUTF}, {strings.Repeat("x", api.MaxStr+1) + ",", "\xff", api.EUTF}, {strings.Repeat(",", api.MaxCols), "\xff", api.EUTF}, {strings.Repeat("\n", api.MaxRows+2), "\xff", api.EUTF},
	// A quote in a field that does not begin with it.
	{"a", "\"", api.ESYNTAX}, {"a", "\"b", api.ESYNTAX}, {"a", "\"\"", api.ESYNTAX}, {"a", "\"b\"", api.ESYNTAX}, {" ", "\"a\"", api.ESYNTAX}, {"\t", "\"", api.ESYNTAX}, {"a,b", "\"", api.ESYNTAX}, {"a, ", "\"b\"", api.ESYNTAX}, {"a\nb", "\"", api.ESYNTAX}, {"a\r\nb", "\"\r\n", api.ESYNTAX}, {"\"a\",b", "\"", api.ESYNTAX}, {"a", "\",b", api.ESYNTAX}, {"\u20ac", "\"", api.ESYNTAX}, {"\ufeff", "\"a\"", api.ESYNTAX}, {"a,bc", "\"d\",e", api.ESYNTAX}, {"\\", "\"", api.ESYNTAX},
	// A 13 without 10 behind it, outside of quotes.
	{"", "\r", api.ESYNTAX}, {"a", "\r", api.ESYNTAX}, {"a", "\rb", api.ESYNTAX}, {"a", "\r\r\n", api.ESYNTAX}, {"", "\ra", api.ESYNTAX}, {"a,", "\r", api.ESYNTAX}, {"a,", "\r,b", api.ESYNTAX}, {"a\n", "\r", api.ESYNTAX}, {"a\r\n", "\r", api.ESYNTAX}, {"a\n", "\rb", api.ESYNTAX}, {"a\n", "\r\r\n", api.ESYNTAX}, {"a", "\r,", api.ESYNTAX}, {"a", "\r\"\n", api.ESYNTAX}, {"a", "\r \n", api.ESYNTAX}, {",", "\r", api.ESYNTAX}, {"\"\r\",b", "\r", api.ESYNTAX},
	{"\"a\"", "\r", api.ESYNTAX}, {"\"a\"", "\rb", api.ESYNTAX}, {"\"a\"", "\r\r\n", api.ESYNTAX}, {"\"\"", "\r", api.ESYNTAX}, {"\"\"", "\r\"\n", api.ESYNTAX}, {"a,\"b\"", "\r,", api.ESYNTAX}, {"\"\r\"", "\r", api.ESYNTAX},
	// What stands behind the last quote.
	{"\"a\"", "b", api.ESYNTAX}, {"\"a\"", " ", api.ESYNTAX}, {"\"a\"", " ,b", api.ESYNTAX}, {"\"a\"", " \n", api.ESYNTAX}, {"\"a\"", "\t", api.ESYNTAX}, {"\"\"", "a", api.ESYNTAX}, {"\"\"", "a\"", api.ESYNTAX}, {"\"\"\"\"", "a", api.ESYNTAX}, {"\"a\"\"b\"", "c", api.ESYNTAX}, {"a,\"b\"", "c,d", api.ESYNTAX}, {"a\n\"b\"", "c", api.ESYNTAX}, {"\"a\nb\"", "c", api.ESYNTAX}, {"\"a\"", "\u20ac", api.ESYNTAX}, {"\"a\"", "b\"", api.ESYNTAX}, {"\"a\"", "\x00", api.ESYNTAX}, {"\"a\"", ";", api.ESYNTAX}, {"\"a\"", "\\", api.ESYNTAX}, {"\"a\"", " \"b\"", api.ESYNTAX},
	// The text's end within quotes.
	{"\"", "", api.ESYNTAX}, {"\"a", "", api.ESYNTAX}, {"\"a\"\"", "", api.ESYNTAX}, {"\"\"\"", "", api.ESYNTAX}, {"a,\"", "", api.ESYNTAX}, {"a,\"b", "", api.ESYNTAX}, {"\"a,b", "", api.ESYNTAX}, {"\"a\n", "", api.ESYNTAX}, {"\"a\r\n", "", api.ESYNTAX}, {"\"\r", "", api.ESYNTAX}, {"a\n\"b\n\n", "", api.ESYNTAX}, {"\"a\",\"", "", api.ESYNTAX}, {"\"a\"\n\"", "", api.ESYNTAX}, {"\"\u20ac\n\u20ac", "", api.ESYNTAX}, {"\"\"\"\"\"", "", api.ESYNTAX}, {"\"\"\",", "", api.ESYNTAX},
	// A row with fewer fields than the first, or more, ended and not.
	{"a,b\n", "c\n", api.EROW}, {"a,b\r\n", "c\r\n", api.EROW}, {"a\n", "b,c", api.EROW}, {"a\n", "b,c\n", api.EROW}, {"a,b\n", "\n", api.EROW}, {"a,b\n", "\r\n", api.EROW}, {"a,b\nc,d\n", "\n", api.EROW}, {"a\n", ",", api.EROW}, {"\n", "a,b", api.EROW}, {"a\n\n", "b,c", api.EROW}, {"a,b,c\n", "d,e\nf,g,h", api.EROW}, {"a,b\nc,d\ne,f\n", "g", api.EROW}, {"a,b\n", "c,d,e\n", api.EROW}, {"a,b\n", "c,d,", api.EROW}, {"a,b\n", "\"c,d\"", api.EROW}, {"\"a,b\"\n", "c,d", api.EROW}, {"\"a\nb\"\n", "c,\"d\n\"", api.EROW}, {"a,b\n", "\"c\nd\"\n", api.EROW}, {"a,b\n", "\"\"", api.EROW}, {"\u20ac,b\n\u20ac,c\r\n", "\u20ac", api.EROW}, {",\n", "\n,", api.EROW}, {"a,b\n", "\n\n", api.EROW}, {"a,b\n", " ", api.EROW},
	// Of two faults the first, as one reads on.
	{"a", "\"\"b\r", api.ESYNTAX}, {"a", "\rb\"", api.ESYNTAX}, {"\"a\"", "b\"", api.ESYNTAX}, {"\"a\"", "b\r\"", api.ESYNTAX}, {"a,b\n", "c\nd\"", api.EROW}, {"a\n", "b,c\nd\"", api.EROW}, {"a,b\n", "c\nd\re", api.EROW}, {"a,b\n", "c\n\"", api.EROW}, {"a,b\n", "c\nd,e,f\n", api.EROW}, {"a,b\n", "c\n\"d\"e", api.EROW},
	{"a\nb,c", "\"", api.ESYNTAX}, {"a\nb,\"", "", api.ESYNTAX}, {"a\nb,c,d", "\r", api.ESYNTAX}, {"a,b\nc", "\rd", api.ESYNTAX}, {"a,b\nc", "\"\n", api.ESYNTAX}, {"a,b\n\"c\"", "d", api.ESYNTAX}, {"a,b\n\"c,d\n", "", api.ESYNTAX}, {"a,b\nc", "\r", api.ESYNTAX}, {"a,b\n", "\r", api.ESYNTAX}, {"a,b\n\"c\"", "\r", api.ESYNTAX},
}

func TestFaults(t *testing.T) {
	for _, c := range wrong {
		refuses(t, c.right+c.rest, len(c.right), c.err)
	}
}

// TestFaultsFurther: what stands behind a fault alters nothing of it, but a byte that begins no letter; and what stands in the rows ahead moves it.
func TestFaultsFurther(t *testing.T) {
	ahead := []string{"\n", "\r\n", "a\n", "\"\u20ac\nb\"\r\n", "\"\"\"\"\n\n"}
	behind := []string{"\n", "\r", ",", "\"", "a", "\r\n", "\n\n", ",\"", "\n\"", "\u20ac"}
	for _, c := range wrong {
		if c.err == api.EUTF {
			for _, b := range behind {
				refuses(t, c.right+c.rest+b, len(c.right), api.EUTF)
			}
			continue
		}
		refuses(t, c.right+c.rest+"\xff", len(c.right+c.rest), api.EUTF)
		if c.err == api.ESYNTAX && c.rest != "" && !strings.HasSuffix(c.rest, "\r") {
			for _, b := range behind {
				refuses(t, c.right+c.rest+b, len(c.right), api.ESYNTAX)
			}
		}
		if c.err == api.EROW {
			for _, b := range behind {
				if strings.HasSuffix(c.rest, "\n") {
					refuses(t, c.right+c.rest+b, len(c.right), api.EROW)
				}
			}
		}
		if first, _, _ := strings.Cut(c.right+c.rest, "\n"); c.err == api.ESYNTAX && !strings.Contains(first, ",") {
			for _, a := range ahead {
				refuses(t, a+c.right+c.rest, len(a+c.right), api.ESYNTAX)
			}
		}
	}
}

// TestValid tells that a text is CSV just if Rows finds no fault in it, also where a head of it has none or one.
func TestValid(t *testing.T) {
	texts := []string{}
	for _, c := range right {
		texts = append(texts, c.text)
	}
	for _, c := range wrong {
		texts = append(texts, c.right+c.rest)
	}
	for _, text := range texts {
		for n := range len(text) + 1 {
			if _, fault := cread.Rows(text[:n]); cread.Valid(text[:n]) != (fault == api.Fault{}) {
				t.Errorf("P13.1: Valid(%s) tells another than Rows, %+v", short(text[:n]), fault)
			}
		}
	}
}

// TestSpread: rows share no memory with each other, nor with the text.
func TestSpread(t *testing.T) {
	texts := []string{"a,b\nc,d\ne,f\n", "\"a\",\"b\"\n\"c\"\"\",d", "a\nb\nc", ",,,\n,,,\n", "\"x,y\",z\r\n1,2"}
	for _, text := range texts {
		text = strings.Clone(text)
		first, _ := cread.Rows(text)
		want, _ := cread.Rows(text)
		// Spare room of one list may be no part of another.
		for i, r := range first {
			room := r[:cap(r)]
			for j := range room {
				room[j] = "spoilt"
			}
			for k := i + 1; k < len(first); k++ {
				if !slices.Equal(first[k], want[k]) {
					t.Errorf("R4: Rows(%s): row %d shares memory with row %d", short(text), i, k)
				}
			}
			first[i] = want[i]
		}
		if second, _ := cread.Rows(text); !same(second, want) {
			t.Errorf("R5: Rows(%s) told again: %q, want %q", short(text), second, want)
		}
		for _, r := range want {
			for _, field := range r {
				if within(text, field) {
					t.Errorf("R4: Rows(%s): the field %q is a piece of the text", short(text), field)
				}
			}
		}
	}
}

// within tells whether a piece lies in a text's memory.
func within(text, piece string) bool {
	if piece == "" {
		return false
	}
	begin := uintptr(unsafe.Pointer(unsafe.StringData(text)))
	at := uintptr(unsafe.Pointer(unsafe.StringData(piece)))
	return at >= begin && at < begin+uintptr(len(text))
}
