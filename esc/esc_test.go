package esc_test

import (
	"encoding/json"
	"fmt"
	"math"
	"math/rand"
	"regexp"
	"strconv"
	"strings"
	"testing"
	"unicode/utf8"

	"dragoman/esc"
)

// quoted are strings, and how JSON and TOML write them.
var quoted = []struct{ s, json, toml string }{
	{"", `""`, `""`},
	{"a", `"a"`, `"a"`},
	{"a b.c", `"a b.c"`, `"a b.c"`},
	// The chapter's example.
	{"a\nb", `"a\nb"`, `"a\nb"`},
	// Each byte below 32.
	{"\x00\x01\x02\x03", `"\u0000\u0001\u0002\u0003"`, `"\u0000\u0001\u0002\u0003"`},
	{"\x04\x05\x06\x07", `"\u0004\u0005\u0006\u0007"`, `"\u0004\u0005\u0006\u0007"`},
	{"\x08\x09\x0a\x0b", `"\b\t\n\u000b"`, `"\b\t\n\u000b"`},
	{"\x0c\x0d\x0e\x0f", `"\f\r\u000e\u000f"`, `"\f\r\u000e\u000f"`},
	{"\x10\x11\x12\x13", `"\u0010\u0011\u0012\u0013"`, `"\u0010\u0011\u0012\u0013"`},
	{"\x14\x15\x16\x17", `"\u0014\u0015\u0016\u0017"`, `"\u0014\u0015\u0016\u0017"`},
	{"\x18\x19\x1a\x1b", `"\u0018\u0019\u001a\u001b"`, `"\u0018\u0019\u001a\u001b"`},
	{"\x1c\x1d\x1e\x1f", `"\u001c\u001d\u001e\u001f"`, `"\u001c\u001d\u001e\u001f"`},
	{" !", `" !"`, `" !"`},
	// The quotes, the strokes and 127.
	{`"`, `"\""`, `"\""`},
	{`\`, `"\\"`, `"\\"`},
	{`/`, `"/"`, `"/"`},
	{`'`, `"'"`, `"'"`},
	{`"""`, `"\"\"\""`, `"\"\"\""`},
	{`\n`, `"\\n"`, `"\\n"`},
	{`\u0041`, `"\\u0041"`, `"\\u0041"`},
	{`\"/`, `"\\\"/"`, `"\\\"/"`},
	{"~\x7f", "\"~\x7f\"", `"~\u007f"`},
	{"\x7f\x7f", "\"\x7f\x7f\"", `"\u007f\u007f"`},
	// The edges of two, three and four bytes.
	{"\u0080\u07ff", "\"\u0080\u07ff\"", "\"\u0080\u07ff\""},
	{"\u0800\ud7ff\ue000\uffff", "\"\u0800\ud7ff\ue000\uffff\"", "\"\u0800\ud7ff\ue000\uffff\""},
	{"\U00010000\U0010ffff", "\"\U00010000\U0010ffff\"", "\"\U00010000\U0010ffff\""},
	{"\u00e9\u20ac\U0001F600\u2028\u2029", "\"\u00e9\u20ac\U0001F600\u2028\u2029\"", "\"\u00e9\u20ac\U0001F600\u2028\u2029\""},
	{"<>&", `"<>&"`, `"<>&"`},
	// A byte that begins no letter: alone, at the end, at the beginning, between letters.
	{"\xff", "\"\ufffd\"", "\"\ufffd\""},
	{"\x80", "\"\ufffd\"", "\"\ufffd\""},
	{"a\xc3", "\"a\ufffd\"", "\"a\ufffd\""},
	{"\xbfa", "\"\ufffda\"", "\"\ufffda\""},
	{"a\xffb", "\"a\ufffdb\"", "\"a\ufffdb\""},
	{"\u20ac\xfe\u20ac", "\"\u20ac\ufffd\u20ac\"", "\"\u20ac\ufffd\u20ac\""},
	{"\xff\xfe", "\"\ufffd\ufffd\"", "\"\ufffd\ufffd\""},
	{"\xe2\x82", "\"\ufffd\ufffd\"", "\"\ufffd\ufffd\""},
	{"\xe2\x82a", "\"\ufffd\ufffda\"", "\"\ufffd\ufffda\""},
	{"\xe2\x82\"", "\"\ufffd\ufffd\\\"\"", "\"\ufffd\ufffd\\\"\""},
	{"\xf0\x9f\x98", "\"\ufffd\ufffd\ufffd\"", "\"\ufffd\ufffd\ufffd\""},
	{"\xc0\x80", "\"\ufffd\ufffd\"", "\"\ufffd\ufffd\""},
	{"\xed\xa0\x80", "\"\ufffd\ufffd\ufffd\"", "\"\ufffd\ufffd\ufffd\""},
	{"\xf4\x90\x80\x80", "\"\ufffd\ufffd\ufffd\ufffd\"", "\"\ufffd\ufffd\ufffd\ufffd\""},
	{"\xff\n\x7f", "\"\ufffd\\n\x7f\"", "\"\ufffd\\n\\u007f\""},
}

func TestQuote(t *testing.T) {
	for _, c := range quoted {
		if got := esc.Quote(c.s); got != c.json {
			t.Errorf("P6.1: Quote(%q): %s, want %s", c.s, got, c.json)
		}
		if got := esc.TQuote(c.s); got != c.toml {
			t.Errorf("P6.1: TQuote(%q): %s, want %s", c.s, got, c.toml)
		}
	}
}

// reads tells that a reader reads a string that begins a text, and where it goes on.
func reads(t *testing.T, promise string, read func(string, int) (string, int, int), ahead, text, behind, said string) {
	t.Helper()
	got, next, bad := read(ahead+text+behind, len(ahead))
	if got != said || next != len(ahead)+len(text) || bad != -1 {
		t.Errorf("%s: of %q at %d: %q, %d, %d, want %q, %d, -1", promise, ahead+text+behind, len(ahead), got, next, bad, said, len(ahead)+len(text))
	}
}

// refuses tells that a reader refuses a text just behind what is right of it, and tells nothing else.
func refuses(t *testing.T, promise string, read func(string, int) (string, int, int), ahead, right, rest string) {
	t.Helper()
	got, next, bad := read(ahead+right+rest, len(ahead))
	if bad != len(ahead)+len(right) {
		t.Errorf("%s: of %q at %d: %q, %d, %d, want the fault at %d", promise, ahead+right+rest, len(ahead), got, next, bad, len(ahead)+len(right))
	}
	if bad >= 0 && (got != "" || next != 0) {
		t.Errorf("R2: of %q at %d: %q, %d beside a fault", ahead+right+rest, len(ahead), got, next)
	}
}

// aheads stand ahead of a string that begins at another place than 0.
var aheads = []string{"", " ", "x", `"`, `'`, `\`, `""`, `''`, "\n", "\xff", "\u20ac", `["a", `, `\u00`, `\ud83d`}

// behinds stand behind a string, and are not looked at.
var behinds = []string{"", " ", "x", "\n", "\x00", "\xff", `\`, `\u`, "\u20ac", `,1]`}

// There and back: what Quote makes, Unquote takes, and so with TQuote and TUnquote.
func TestThereAndBack(t *testing.T) {
	for _, c := range quoted {
		want := string([]rune(c.s))
		for _, ahead := range aheads {
			for _, behind := range append(behinds, `"`, `""`, `'`) {
				reads(t, "P6.2", esc.Unquote, ahead, esc.Quote(c.s), behind, want)
				// Two quotes and another would begin a string of many lines.
				if c.s != "" || !strings.HasPrefix(behind, `"`) {
					reads(t, "P6.3", esc.TUnquote, ahead, esc.TQuote(c.s), behind, want)
				}
			}
		}
	}
	for r := range rune(utf8.MaxRune + 1) {
		if !utf8.ValidRune(r) {
			continue
		}
		s := "x" + string(r)
		if got, next, bad := esc.Unquote(esc.Quote(s), 0); got != s || next != len(esc.Quote(s)) || bad != -1 {
			t.Fatalf("P6.2: Unquote of Quote(%q): %q, %d, %d", s, got, next, bad)
		}
		if got, next, bad := esc.TUnquote(esc.TQuote(s), 0); got != s || next != len(esc.TQuote(s)) || bad != -1 {
			t.Fatalf("P6.3: TUnquote of TQuote(%q): %q, %d, %d", s, got, next, bad)
		}
		if r >= 128 && esc.TQuote(s) != `"`+s+`"` || r >= 127 && esc.Quote(s) != `"`+s+`"` {
			t.Fatalf("P6.1: Quote, TQuote(%q): %s, %s", s, esc.Quote(s), esc.TQuote(s))
		}
	}
}

// jsonRight are strings of JSON, and what they say.
var jsonRight = []struct{ text, said string }{
	{`""`, ""},
	{`"a"`, "a"},
	{`"a b"`, "a b"},
	{`"'"`, "'"},
	{`"/"`, "/"},
	{"\"\x7f\"", "\x7f"},
	// The chapter's example.
	{`"\u0041"`, "A"},
	// Each escape.
	{`"\""`, `"`}, {`"\\"`, `\`}, {`"\/"`, "/"}, {`"\b"`, "\x08"}, {`"\f"`, "\x0c"}, {`"\n"`, "\x0a"}, {`"\r"`, "\x0d"}, {`"\t"`, "\x09"},
	{`"\"\\\/\b\f\n\r\t"`, "\"\\/\b\f\n\r\t"},
	{`"\\n"`, `\n`}, {`"\\\\"`, `\\`}, {`"\\\""`, `\"`}, {`"\\u0041"`, `\u0041`}, {`"a\nb"`, "a\nb"},
	// \u of a letter.
	{`"\u0000"`, "\x00"}, {`"\u001f"`, "\x1f"}, {`"\u0022"`, `"`}, {`"\u005c"`, `\`}, {`"\u005C"`, `\`}, {`"\u007f"`, "\x7f"}, {`"\u0080"`, "\u0080"},
	{`"\u07ff\u0800"`, "\u07ff\u0800"}, {`"\uabcd"`, "\uabcd"}, {`"\uABCD"`, "\uabcd"}, {`"\uAbCd"`, "\uabcd"}, {`"\uefEF"`, "\uefef"},
	{`"\u20ac"`, "\u20ac"}, {`"\uFFFF"`, "\uffff"}, {`"\ufffd"`, "\ufffd"},
	{`"\u00411"`, "A1"}, {`"\u0041\u0042"`, "AB"},
	// The last letter ahead of the halves, and the first behind them.
	{`"\ud7ff"`, "\ud7ff"}, {`"\uD7FF"`, "\ud7ff"}, {`"\ue000"`, "\ue000"}, {`"\uE000"`, "\ue000"}, {`"\ud7ff\ue000"`, "\ud7ff\ue000"},
	// \u of two halves.
	{`"\ud83d\ude00"`, "\U0001F600"}, {`"\uD83D\uDE00"`, "\U0001F600"}, {`"\uD83d\udE00"`, "\U0001F600"},
	{`"\ud800\udc00"`, "\U00010000"}, {`"\udbff\udfff"`, "\U0010ffff"}, {`"\ud800\udfff"`, "\U000103ff"}, {`"\udbff\udc00"`, "\U0010fc00"},
	{`"\ud83d\ude00\ud83d\ude00"`, "\U0001F600\U0001F600"}, {`"a\ud83d\ude00b"`, "a\U0001F600b"}, {`"\u0041\ud83d\ude00\u0041"`, "A\U0001F600A"},
	// Letters at the edges.
	{"\"\u0080\u07ff\u0800\ud7ff\ue000\uffff\U00010000\U0010ffff\"", "\u0080\u07ff\u0800\ud7ff\ue000\uffff\U00010000\U0010ffff"},
}

// jsonWrong are texts with a fault: what is right of it, and the rest from the fault on.
var jsonWrong = []struct{ right, rest string }{
	// No quote at the beginning.
	{"", ""}, {"", "x"}, {"", " \"a\""}, {"", "'a'"}, {"", "\\\"a\""}, {"", "\n\"a\""}, {"", "\xff"}, {"", "\x00"}, {"", "u"}, {"", "\u201c"},
	// A byte below 32.
	{`"`, "\x00\""}, {`"`, "\n\""}, {`"`, "\r\""}, {`"`, "\t\""}, {`"`, "\x1f\""}, {`"a`, "\nb\""}, {`"a`, "\x1b"}, {`"\n`, "\n\""}, {`"a`, "\r\n\""}, {`"`, "\x01\x02\""},
	// A \ with another letter, and with nothing behind it.
	{`"`, `\x"`}, {`"`, `\e"`}, {`"`, `\a"`}, {`"`, `\v"`}, {`"`, `\0"`}, {`"`, `\'"`}, {`"`, `\ "`}, {`"`, `\U0001F600"`}, {`"`, `\N"`}, {`"`, `\B"`}, {`"`, "\\\n\""}, {`"`, "\\\xff\""}, {`"`, "\\\u20ac\""}, {`"`, "\\\x00\""}, {`"a`, `\x"`}, {`"\\`, `\x"`}, {`"\"`, `\x`},
	{`"`, `\`}, {`"a`, `\`}, {`"\\`, `\`}, {`"\u0041`, `\`},
	// \u with too few digits, or with others.
	{`"`, `\u`}, {`"`, `\u"`}, {`"`, `\u1"`}, {`"`, `\u12"`}, {`"`, `\u123"`}, {`"`, `\u0`}, {`"`, `\u00`}, {`"`, `\u004`}, {`"a`, `\u00"`},
	{`"`, `\u12g4"`}, {`"`, `\uG123"`}, {`"`, `\u123G"`}, {`"`, `\u 123"`}, {`"`, `\u+123"`}, {`"`, `\u-123"`}, {`"`, `\u0x12"`}, {`"`, `\u1_23"`}, {`"`, `\u{41}"`}, {`"`, `\u12` + "\xff" + `4"`}, {`"`, `\u\u0041"`}, {`"`, `\u00` + "\u0664" + `"`}, {`"`, "\\u004\n\""}, {`"\u0041`, `\u004"`},
	// The first half alone, or with something else behind it.
	{`"`, `\ud83d"`}, {`"`, `\uD83D"`}, {`"`, `\ud800"`}, {`"`, `\udbff"`}, {`"`, `\ud83d`}, {`"a`, `\ud83d"`}, {`"`, `\ud83dx"`}, {`"`, `\ud83dxxxxxx"`}, {`"`, `\ud83d ` + `\ude00"`}, {`"`, `\ud83d\n"`}, {`"`, `\ud83d\"`}, {`"`, `\ud83d\`}, {`"`, `\ud83d\\ude00"`},
	{`"`, `\ud83d\u"`}, {`"`, `\ud83d\u`}, {`"`, `\ud83d\ude0"`}, {`"`, `\ud83d\ude0`}, {`"`, `\ud83d\ude0g"`}, {`"`, `\ud83d\Ude00"`}, {`"`, `\ud83dude00"`}, {`"`, `\ud83d/ude00"`},
	{`"`, `\ud83d\u0041"`}, {`"`, `\ud83d\ud83d"`}, {`"`, `\ud83d\ud83d\ude00"`}, {`"`, `\ud83d\udbff"`}, {`"`, `\ud83d\ue000"`}, {`"`, `\ud83d\ud7ff"`}, {`"`, `\ud83d\uffff"`}, {`"`, "\\ud83d\n\""}, {`"`, "\\ud83d\xff\""}, {`"\ud83d\ude00`, `\ud83d"`},
	// The other half alone.
	{`"`, `\ude00"`}, {`"`, `\uDC00"`}, {`"`, `\udfff"`}, {`"`, `\ude00\ud83d"`}, {`"`, `\udc00\udc00"`}, {`"a`, `\udc00"`}, {`"\ud83d\ude00`, `\ude00"`},
	// A byte that begins no letter.
	{`"`, "\xff\""}, {`"a`, "\xff\""}, {`"`, "\x80\""}, {`"`, "\xe2\x82\""}, {`"`, "\xe2\x82"}, {`"`, "\xc0\x80\""}, {`"`, "\xed\xa0\x80\""}, {`"`, "\xf4\x90\x80\x80\""}, {"\"\u20ac", "\xfe"}, {`"\n`, "\xbf\""}, {`"\u0041`, "\x80\""},
	// The text's end.
	{`"`, ""}, {`"a`, ""}, {`"abc`, ""}, {`"\"`, ""}, {`"\\\"`, ""}, {`"\u0041`, ""}, {`"\ud83d\ude00`, ""}, {"\"\u20ac", ""}, {`"'`, ""},
}

func TestUnquote(t *testing.T) {
	for _, ahead := range aheads {
		for _, c := range jsonRight {
			for _, behind := range append(behinds, `"`, `""`, `"b"`) {
				reads(t, "P6.2", esc.Unquote, ahead, c.text, behind, c.said)
			}
		}
		for _, c := range jsonWrong {
			refuses(t, "P6.2", esc.Unquote, ahead, c.right, c.rest)
		}
	}
}

// tomlRight are strings of TOML, and what they say.
var tomlRight = []struct{ text, said string }{
	// Of one line.
	{`""`, ""}, {`''`, ""}, {`"a"`, "a"}, {`'a'`, "a"}, {`"'"`, "'"}, {`'"'`, `"`}, {`"''"`, "''"}, {`'""'`, `""`}, {`"'''"`, "'''"}, {`'"""'`, `"""`},
	{"\"a\tb\"", "a\tb"}, {"'a\tb'", "a\tb"}, {`"/"`, "/"}, {`"a b"`, "a b"},
	// Within ': as they are.
	{`'\'`, `\`}, {`'\n'`, `\n`}, {`'\u0041'`, `\u0041`}, {`'\x'`, `\x`}, {`'\\'`, `\\`}, {`'\ud83d'`, `\ud83d`}, {`'C:\a\b'`, `C:\a\b`},
	// Each escape.
	{`"\""`, `"`}, {`"\\"`, `\`}, {`"\b"`, "\x08"}, {`"\t"`, "\x09"}, {`"\n"`, "\x0a"}, {`"\f"`, "\x0c"}, {`"\r"`, "\x0d"}, {`"\e"`, "\x1b"},
	{`"\"\\\b\t\n\f\r\e"`, "\"\\\b\t\n\f\r\x1b"}, {`"\\n"`, `\n`}, {`"\\\""`, `\"`}, {`"\\\\"`, `\\`}, {`"\\u0041"`, `\u0041`},
	{`"""\"\\\b\t\n\f\r\e"""`, "\"\\\b\t\n\f\r\x1b"},
	// \u and \U of a letter.
	{`"\u0000"`, "\x00"}, {`"\u0041"`, "A"}, {`"\u007f"`, "\x7f"}, {`"\u007F"`, "\x7f"}, {`"\u000d"`, "\r"}, {`"\uabcd"`, "\uabcd"}, {`"\uABCD"`, "\uabcd"}, {`"\uAbCd"`, "\uabcd"}, {`"\u20AC1"`, "\u20ac1"},
	{`"\ud7ff"`, "\ud7ff"}, {`"\uD7FF"`, "\ud7ff"}, {`"\ue000"`, "\ue000"}, {`"\uE000"`, "\ue000"}, {`"\uffff"`, "\uffff"},
	{`"\U00000000"`, "\x00"}, {`"\U00000041"`, "A"}, {`"\U0000d7ff"`, "\ud7ff"}, {`"\U0000E000"`, "\ue000"}, {`"\U0000ffff"`, "\uffff"}, {`"\U00010000"`, "\U00010000"}, {`"\U0001F600"`, "\U0001F600"}, {`"\U0001f6001"`, "\U0001F6001"}, {`"\U0010ffff"`, "\U0010ffff"}, {`"\U0010FFFF"`, "\U0010ffff"}, {`"\U000FFFFF"`, "\U000fffff"},
	{`"""\u0041\U0010ffff"""`, "A\U0010ffff"},
	{"\"\u0080\u07ff\u0800\ud7ff\ue000\uffff\U00010000\U0010ffff\"", "\u0080\u07ff\u0800\ud7ff\ue000\uffff\U00010000\U0010ffff"},
	{"'\u0080\u07ff\u0800\ud7ff\ue000\uffff\U00010000\U0010ffff'", "\u0080\u07ff\u0800\ud7ff\ue000\uffff\U00010000\U0010ffff"},
	// Of many lines.
	{`""""""`, ""}, {`''''''`, ""}, {`"""a"""`, "a"}, {`'''a'''`, "a"}, {"\"\"\"a\nb\"\"\"", "a\nb"}, {"'''a\nb'''", "a\nb"}, {"\"\"\"a\r\nb\"\"\"", "a\r\nb"}, {"'''a\r\nb\tc'''", "a\r\nb\tc"}, {"\"\"\"a\n\n\tb\"\"\"", "a\n\n\tb"},
	{`"""'''"""`, "'''"}, {`'''"""'''`, `"""`}, {`'''\'''`, `\`}, {`'''\n\u0041\x'''`, `\n\u0041\x`}, {"'''a\\\n b'''", "a\\\n b"},
	{"'''\u20ac\n\U0001F600'''", "\u20ac\n\U0001F600"}, {"\"\"\"\u20ac\n\U0001F600\"\"\"", "\u20ac\n\U0001F600"},
	// A line's end right behind the beginning.
	{"\"\"\"\na\"\"\"", "a"}, {"'''\na'''", "a"}, {"\"\"\"\r\na\"\"\"", "a"}, {"'''\r\na'''", "a"}, {"\"\"\"\n\"\"\"", ""}, {"'''\r\n'''", ""},
	{"\"\"\"\n\na\"\"\"", "\na"}, {"'''\r\n\r\na'''", "\r\na"}, {"'''\n\r\na'''", "\r\na"}, {"\"\"\"\r\n\na\"\"\"", "\na"}, {"\"\"\" \na\"\"\"", " \na"}, {"'''a\n'''", "a\n"}, {"'''\r\nab\r\n'''", "ab\r\n"}, {`"""\na"""`, "\na"}, {"\"\"\"\n\\\n a\"\"\"", "a"},
	// More of the quote ahead of the three that end it.
	{`"""a""""`, `a"`}, {`"""a"""""`, `a""`}, {`'''a''''`, `a'`}, {`'''a'''''`, `a''`}, {`"""""""`, `"`}, {`""""""""`, `""`}, {`'''''''`, `'`}, {`''''''''`, `''`}, {"\"\"\"\n\"\"\"\"\"", `""`},
	{`""""a"""`, `"a`}, {`"""""a"""`, `""a`}, {`''''a'''`, `'a`}, {`'''''a'''`, `''a`}, {`"""a"b""c"""`, `a"b""c`}, {`'''a'b''c'''`, `a'b''c`}, {`''''a'''''`, `'a''`}, {`"""a"""`, "a"},
	{`"""\""""`, `"`}, {`"""\"""""`, `""`}, {`"""\""""""`, `"""`}, {`"""a\""b"""`, `a""b`}, {`"""""\""""""`, `"""""`}, {`"""\"""\"""\""""""`, `"""""""""`},
	// A \ at a line's end, with blanks and lines behind it.
	{"\"\"\"a\\\nb\"\"\"", "ab"}, {"\"\"\"a\\\r\nb\"\"\"", "ab"}, {"\"\"\"a\\ \nb\"\"\"", "ab"}, {"\"\"\"a\\\t\r\nb\"\"\"", "ab"}, {"\"\"\"a\\ \t \t\nb\"\"\"", "ab"},
	{"\"\"\"a\\\n b\"\"\"", "ab"}, {"\"\"\"a\\\n\tb\"\"\"", "ab"}, {"\"\"\"a\\\n\n\nb\"\"\"", "ab"}, {"\"\"\"a\\\n  \n\t\r\n \tb\"\"\"", "ab"}, {"\"\"\"a \\\n b\"\"\"", "a b"}, {"\"\"\"a\\ \r\n \r\n b\"\"\"", "ab"},
	{"\"\"\"\\\n\"\"\"", ""}, {"\"\"\"\\\n a\"\"\"", "a"}, {"\"\"\"a\\\n\\\nb\"\"\"", "ab"}, {"\"\"\"a\\\n  \\\n  b\\\n\"\"\"", "ab"}, {"\"\"\"a\\\n\\n b\"\"\"", "a\n b"}, {"\"\"\"a\\\\\nb\"\"\"", "a\\\nb"}, {"\"\"\"a\\\n\"b\"\"\"", `a"b`}, {"\"\"\"a\\\n\"\"\"\"\"", `a""`}, {"\"\"\"a\\\n\u00a0b\"\"\"", "a\u00a0b"},
	// All 13 behind that line's end are passed over, also those without 10.
	{"\"\"\"a\\\n\rb\"\"\"", "ab"}, {"\"\"\"a\\\r\n\r \r\"\"\"", "a"},
}

// tomlWrong are texts with a fault: what is right of it, and the rest from the fault on.
var tomlWrong = []struct{ right, rest string }{
	// No quote at the beginning.
	{"", ""}, {"", "x"}, {"", ` "a"`}, {"", ` 'a'`}, {"", `\"a"`}, {"", "\n'a'"}, {"", "\xff"}, {"", "\x00"}, {"", "`a`"}, {"", "\u2018a\u2019"},
	// Bytes below 32 but 9, and 127.
	{`"`, "\x00\""}, {`'`, "\x00'"}, {`"`, "\n\""}, {`'`, "\n'"}, {`"a`, "\x08\""}, {`'a`, "\x08'"}, {`"a`, "\x0b\""}, {`'a`, "\x0b'"}, {`"`, "\x1f\""}, {`'`, "\x1f'"}, {`"a`, "\r\n\""}, {`'a`, "\r\n'"}, {`"a`, "\r\""}, {`"`, "\x7f\""}, {`'`, "\x7f'"}, {"\"\t", "\x7f"}, {"'\t", "\x7f"},
	{`"""`, "\x00\"\"\""}, {`'''`, "\x00'''"}, {`"""`, "\x08\"\"\""}, {`'''a`, "\x0b'''"}, {"'''a\n", "\x0c'''"}, {`"""a`, "\x1f\"\"\""}, {`"""`, "\x7f\"\"\""}, {`'''`, "\x7f'''"}, {"'''\n", "\x7f'''"}, {"\"\"\"\\\n", "\x01\"\"\""}, {"\"\"\"\\\n \r", "\x7f"},
	// A 13 without 10.
	{`"""a`, "\rb\"\"\""}, {`'''a`, "\rb'''"}, {`"""`, "\ra\"\"\""}, {`'''`, "\ra'''"}, {`'''`, "\r'''"}, {`"""`, "\r\"\"\""}, {`'''`, "\r\r\n'''"}, {`'''a`, "\r\r\n'''"}, {`'''a`, "\r"}, {`"""a`, "\r"}, {`'''`, "\r"}, {"'''\n", "\r'''"}, {"'''\r\n", "\ra'''"},
	// A \ with another letter, and with nothing behind it.
	{`"`, `\x41"`}, {`"`, `\/"`}, {`"`, `\'"`}, {`"`, `\a"`}, {`"`, `\v"`}, {`"`, `\0"`}, {`"`, `\ "`}, {`"`, `\N"`}, {`"`, `\E"`}, {`"`, "\\\xff\""}, {`"`, "\\\u20ac\""}, {`"`, "\\\t\""}, {`"a\\`, `\x"`},
	{`"""`, `\x41"""`}, {`"""`, `\/"""`}, {`"""a`, `\'"""`}, {"\"\"\"a\n", `\x"""`}, {"\"\"\"\\\n", `\x"""`},
	{`"`, `\`}, {`"a`, `\`}, {`"\\`, `\`}, {`"""`, `\`}, {`"""a`, `\`}, {"\"\"\"\\\n", `\`},
	// A \ with blanks that is at no line's end, or within one line.
	{`"""`, `\ x"""`}, {`"""a`, "\\ \tx\n\"\"\""}, {`"""`, `\ """`}, {`"""`, `\ `}, {`"""a`, "\\\t"}, {`"""`, "\\\rx\"\"\""}, {`"""`, "\\ \r\r\n\"\"\""}, {`"""`, "\\\r"}, {`"""`, "\\ \\\n\"\"\""}, {`"""`, "\\\u00a0\n\"\"\""}, {`"""`, "\\\x0b\n\"\"\""}, {`"""`, "\\ #\n\"\"\""},
	{`"`, "\\\n\""}, {`"`, "\\ \n\""}, {`"a`, "\\\r\nb\""},
	// \u and \U with too few digits, or with others.
	{`"`, `\u`}, {`"`, `\u"`}, {`"`, `\u123"`}, {`"`, `\u004`}, {`"`, `\u12g4"`}, {`"`, `\uG123"`}, {`"`, `\u+123"`}, {`"`, `\u 041"`}, {`"`, `\u1_23"`}, {`"a`, `\u00"`}, {`"""`, `\u00"""`}, {`"""a`, `\u004`},
	{`"`, `\U`}, {`"`, `\U"`}, {`"`, `\U0041"`}, {`"`, `\U0000041"`}, {`"`, `\U0000004`}, {`"`, `\U0000004g"`}, {`"`, `\U+0000041"`}, {`"`, `\Ug0000041"`}, {`"a`, `\U0001F60"`}, {`"""`, `\U0001F60"""`}, {`"`, "\\U0000004\xff\""},
	// Halves, also two of them, and more than the greatest letter.
	{`"`, `\ud800"`}, {`"`, `\uD83D"`}, {`"`, `\uDBFF"`}, {`"`, `\udc00"`}, {`"`, `\udfff"`}, {`"`, `\ud83d\ude00"`}, {`"a`, `\uD83D\uDE00"`}, {`"`, `\U0000d800"`}, {`"`, `\U0000DFFF"`}, {`"`, `\U0000d83d\U0000de00"`}, {`"""`, `\ud800"""`},
	{`"`, `\U00110000"`}, {`"`, `\U00200000"`}, {`"`, `\U01000041"`}, {`"`, `\U10000041"`}, {`"`, `\U7fffffff"`}, {`"`, `\U80000041"`}, {`"`, `\Uffffffff"`}, {`"`, `\UFFFFFFFF"`}, {`"""a`, `\U00110000"""`},
	// A byte that begins no letter.
	{`"`, "\xff\""}, {`'`, "\xff'"}, {`"a`, "\x80\""}, {`'a`, "\x80'"}, {`"`, "\xe2\x82\""}, {`'`, "\xe2\x82'"}, {`'`, "\xc0\x80'"}, {`'`, "\xed\xa0\x80'"}, {`"`, "\xf4\x90\x80\x80\""}, {`'`, "\xe2\x82"}, {`"""`, "\xff\"\"\""}, {`'''`, "\xff'''"}, {"'''a\n", "\xe2\x82'''"}, {"\"\"\"\\\n ", "\xc0\""}, {`'''a''`, "\xff'''"},
	// A string that does not end.
	{`"`, ""}, {`'`, ""}, {`"a`, ""}, {`'a`, ""}, {`"a'`, ""}, {`'a"`, ""}, {`"\"`, ""}, {`"\u0041`, ""}, {"'\u20ac", ""}, {`"a\\\"`, ""},
	{`"""`, ""}, {`'''`, ""}, {`""""`, ""}, {`''''`, ""}, {`"""""`, ""}, {`'''''`, ""}, {`"""a`, ""}, {`'''a`, ""}, {`"""a"`, ""}, {`"""a""`, ""}, {`'''a'`, ""}, {`'''a''`, ""}, {`"""a'''`, ""}, {`'''a"""`, ""}, {"'''\n", ""}, {"\"\"\"\r\n", ""}, {"'''a\n", ""}, {`"""\"""`, ""}, {`"""""\"""`, ""}, {`'''a''b''`, ""}, {"\"\"\"a\\\n", ""}, {"\"\"\"a\\ \r\n \t\r\n", ""}, {"\"\"\"\"\\\n\"\"", ""},
}

func TestTUnquote(t *testing.T) {
	for _, ahead := range aheads {
		for _, c := range tomlRight {
			for _, behind := range behinds {
				reads(t, "P6.3", esc.TUnquote, ahead, c.text, behind, c.said)
			}
		}
		for _, c := range tomlWrong {
			refuses(t, "P6.3", esc.TUnquote, ahead, c.right, c.rest)
		}
	}
}

// TestQuotesBehind: what quotes stand behind a string is looked at only where they may be of it.
func TestQuotesBehind(t *testing.T) {
	for _, c := range []struct{ text, behind, said string }{
		{`""`, `'`, ""}, {`''`, `"`, ""}, {`"a"`, `"`, "a"}, {`'a'`, `'`, "a"}, {`"a"`, `""`, "a"}, {`'a'`, `'''`, "a"}, {`""`, `''`, ""},
		{`"""a"""""`, `"`, `a""`}, {`"""a"""""`, `"""`, `a""`}, {`'''a'''''`, `'`, `a''`}, {`""""""""`, `"`, `""`}, {`''''''''`, `''''`, `''`},
		{`"""a"""`, `'`, "a"}, {`'''a'''`, `"`, "a"}, {`"""a""""`, `'"`, `a"`}, {`'''a''''`, ` '`, `a'`}, {`'''a'''`, `b'''`, "a"},
	} {
		for _, ahead := range aheads {
			reads(t, "P6.3", esc.TUnquote, ahead, c.text, c.behind, c.said)
		}
	}
}

// TestAt: a place that is not in the text, or at its end, begins no string.
func TestAt(t *testing.T) {
	for _, text := range []string{"", `"a"`, `'a'`, `"""a"""`, "'''\n'''", `"`, "\u20ac\""} {
		for _, at := range []int{-1, -2, -1 - len(text), -1 << 31, -1 << 32, math.MinInt} {
			if s, next, bad := esc.Unquote(text, at); s != "" || next != 0 || bad != 0 {
				t.Errorf("P6.2: Unquote(%q, %d): %q, %d, %d", text, at, s, next, bad)
			}
			if s, next, bad := esc.TUnquote(text, at); s != "" || next != 0 || bad != 0 {
				t.Errorf("P6.3: TUnquote(%q, %d): %q, %d, %d", text, at, s, next, bad)
			}
		}
		for _, at := range []int{len(text), len(text) + 1, 1 << 31, 1 << 32, math.MaxInt} {
			if s, next, bad := esc.Unquote(text, at); s != "" || next != 0 || bad != len(text) {
				t.Errorf("P6.2: Unquote(%q, %d): %q, %d, %d", text, at, s, next, bad)
			}
			if s, next, bad := esc.TUnquote(text, at); s != "" || next != 0 || bad != len(text) {
				t.Errorf("P6.3: TUnquote(%q, %d): %q, %d, %d", text, at, s, next, bad)
			}
		}
	}
}

// The grammars, said once more: the pieces of strings up to the first that is wrong.
const (
	hex      = `[0-9a-fA-F]`
	unit     = `(?:[0-9a-ce-fA-CE-F]` + hex + `{3}|[dD][0-7]` + hex + `{2})`
	halves   = `[dD][89abAB]` + hex + `{2}\\u[dD][c-fC-F]` + hex + `{2}`
	none     = `\x00-\x08\x0a-\x1f\x7f`
	tomlEsc  = `\\(?:["\\btnfre]|u` + unit + `|U0000` + unit + `|U000[1-9a-fA-F]` + hex + `{4}|U0010` + hex + `{4})`
	manyOpen = `(?:\r?\n)?`
	fold     = `\\[ \t]*\r?\n[ \t\r\n]*`
	manyTwo  = `^"""` + manyOpen + `((?:"{0,2}(?:[^"\\` + none + `]|\r?\n|` + tomlEsc + `|` + fold + `))*"{0,2})`
	manyOne  = `^'''` + manyOpen + `((?:'{0,2}(?:[^'` + none + `]|\r?\n))*'{0,2})`
)

// grammar is a string's: of a text that begins with open, what pieces it has; and if it ends, what stands within it.
type grammar struct {
	open         string
	pieces, full *regexp.Regexp
	said         func(within string) string
}

var (
	jsonGrammar  = []grammar{made(`"`, `^"((?:[^"\\\x00-\x1f]|\\["\\/bfnrt]|\\u`+unit+`|\\u`+halves+`)*)`, `"`, jsonSays)}
	tomlGrammars = []grammar{
		made(`"""`, manyTwo, `"""`, tomlSays),
		made(`'''`, manyOne, `'''`, asItIs),
		made(`"`, `^"((?:[^"\\`+none+`]|`+tomlEsc+`)*)`, `"`, tomlSays),
		made(`'`, `^'([^'`+none+`]*)`, `'`, asItIs),
	}
	tomlEscapes = regexp.MustCompile(fold + `|\\u` + hex + `{4}|\\U` + hex + `{8}|\\.`)
)

func made(open, pieces, end string, said func(string) string) grammar {
	return grammar{open, regexp.MustCompile(pieces), regexp.MustCompile(pieces + end), said}
}

func asItIs(within string) string { return within }

func jsonSays(within string) string {
	var s string
	if err := json.Unmarshal([]byte(`"`+within+`"`), &s); err != nil {
		panic(err)
	}
	return s
}

func tomlSays(within string) string {
	return tomlEscapes.ReplaceAllStringFunc(within, func(e string) string {
		switch {
		case e[1] == 'u' || e[1] == 'U':
			r, _ := strconv.ParseInt(e[2:], 16, 64)
			return string(rune(r))
		case strings.Contains(" \t\r\n", e[1:2]):
			return ""
		}
		return map[string]string{`\"`: `"`, `\\`: `\`, `\b`: "\b", `\t`: "\t", `\n`: "\n", `\f`: "\f", `\r`: "\r", `\e`: "\x1b"}[e]
	})
}

// expected is what a reader must answer, worked out in another way.
func expected(text string, at int, grammars []grammar) (string, int, int) {
	if at < 0 || at > len(text) {
		return "", 0, min(max(at, 0), len(text))
	}
	rest := text[at:]
	// A byte that begins no letter is as wrong as the text's end, and at the same place.
	for i := 0; i < len(rest); {
		r, n := utf8.DecodeRuneInString(rest[i:])
		if r == utf8.RuneError && n == 1 {
			rest = rest[:i]
			break
		}
		i += n
	}
	for _, g := range grammars {
		if !strings.HasPrefix(rest, g.open) {
			continue
		}
		if m := g.full.FindStringSubmatch(rest); m != nil {
			return g.said(m[1]), at + len(m[0]), -1
		}
		return "", 0, at + len(g.pieces.FindString(rest))
	}
	return "", 0, at
}

// checkAt holds what the readers answer against what is worked out in another way.
func checkAt(t *testing.T, text string, at int) {
	t.Helper()
	want, wantNext, wantBad := expected(text, at, jsonGrammar)
	if s, next, bad := esc.Unquote(text, at); s != want || next != wantNext || bad != wantBad {
		t.Fatalf("P6.2: Unquote(%q, %d): %q, %d, %d, want %q, %d, %d", text, at, s, next, bad, want, wantNext, wantBad)
	}
	want, wantNext, wantBad = expected(text, at, tomlGrammars)
	if s, next, bad := esc.TUnquote(text, at); s != want || next != wantNext || bad != wantBad {
		t.Fatalf("P6.3: TUnquote(%q, %d): %q, %d, %d, want %q, %d, %d", text, at, s, next, bad, want, wantNext, wantBad)
	}
}

// plainly is Quote, and TQuote with 127 too, worked out in another way.
func plainly(s string, alsoRubout bool) string {
	out := `"`
	for _, r := range s {
		name := map[rune]string{'"': `\"`, '\\': `\\`, 8: `\b`, 9: `\t`, 10: `\n`, 12: `\f`, 13: `\r`}[r]
		switch {
		case name != "":
			out += name
		case r < 32 || r == 127 && alsoRubout:
			out += fmt.Sprintf(`\u%04x`, r)
		default:
			out += string(r)
		}
	}
	return out + `"`
}

var bareGrammar = regexp.MustCompile(`\A[a-zA-Z0-9_-]+\z`)

var hexGrammar = regexp.MustCompile(`\A[0-9a-fA-F]{1,8}\z`)

// checkText holds all that is told of a text against what is worked out in another way.
func checkText(t *testing.T, s string) {
	t.Helper()
	if q := esc.Quote(s); q != plainly(s, false) {
		t.Fatalf("P6.1: Quote(%q): %s", s, q)
	}
	if q := esc.TQuote(s); q != plainly(s, true) {
		t.Fatalf("P6.1: TQuote(%q): %s", s, q)
	}
	if back, next, bad := esc.Unquote("x"+esc.Quote(s)+`"`, 1); back != string([]rune(s)) || next != 1+len(esc.Quote(s)) || bad != -1 {
		t.Fatalf("P6.2: Unquote of Quote(%q): %q, %d, %d", s, back, next, bad)
	}
	if back, next, bad := esc.TUnquote("x"+esc.TQuote(s)+`'`, 1); back != string([]rune(s)) || next != 1+len(esc.TQuote(s)) || bad != -1 {
		t.Fatalf("P6.3: TUnquote of TQuote(%q): %q, %d, %d", s, back, next, bad)
	}
	if got := esc.Bare(s); got != bareGrammar.MatchString(s) {
		t.Fatalf("P6.4: Bare(%q): %v", s, got)
	}
	want, _ := strconv.ParseUint(s, 16, 32)
	isHex := hexGrammar.MatchString(s)
	if !isHex {
		want = 0
	}
	if n, ok := esc.Hex(s); n != int(want) || ok != isHex {
		t.Fatalf("P6.1: Hex(%q): %d, %v, want %d, %v", s, n, ok, want, isHex)
	}
}

// sequences are all texts of up to n of the parts.
func sequences(parts []string, n int) []string {
	all := []string{""}
	from := 0
	for range n {
		to := len(all)
		for _, s := range all[from:to] {
			for _, p := range parts {
				all = append(all, s+p)
			}
		}
		from = to
	}
	return all
}

// Each text of a few of the bytes that make a difference.
func TestEveryShortText(t *testing.T) {
	for _, s := range sequences([]string{`"`, `'`, `\`, "u", "n", "A", "0", "-", ".", " ", "\n", "\x7f", "\xff", "\u20ac"}, 3) {
		checkText(t, s)
		for at := -1; at <= len(s)+1; at++ {
			checkAt(t, s, at)
		}
	}
	for _, rest := range sequences([]string{`"`, `\`, " ", "\r", "\n", "b", "\xff"}, 5) {
		for _, open := range []string{`"`, `"""`, `'`, `'''`} {
			checkAt(t, open+rest, 0)
			checkAt(t, open+strings.ReplaceAll(rest, `"`, `'`), 0)
		}
	}
	for _, rest := range sequences([]string{`"`, `\`, `\\`, `\ud8`, `\uDC`, `\u00`, `\U000`, "41", "E0", "u", "f"}, 4) {
		checkAt(t, `"`+rest+`"`, 0)
		checkAt(t, `"""`+rest+`"""`, 0)
	}
}

// Each byte, in each place of each kind of string.
func TestEveryByte(t *testing.T) {
	for b := range 256 {
		x := string([]byte{byte(b)})
		for _, y := range []string{x, x + "a", "a" + x, "a" + x + "b", x + x, "\u20ac" + x + "\u20ac", "12345678" + x, "1234567" + x, x + "1234567"} {
			checkText(t, y)
		}
		for _, within := range []string{x, `\` + x, `\u` + x + "041", `\u0` + x + "41", `\u00` + x + "1", `\u004` + x, `\U0000004` + x, `\U` + x + "0000041", `\ud83d` + x + `\ude00`, `\ud83d` + x + `ude00`, `\ud83d\` + x + `de00`, `\ud83d\ude0` + x, `\ud83d\ud` + x + `00`, `\ud83d\u` + x + `c00`, `\` + x + "\n", "\\\n" + x, "\\\r" + x, "\r" + x, `\` + x + `0041`, `\` + x + `00000041`} {
			for _, quote := range []string{`"`, `'`, `"""`, `'''`} {
				checkAt(t, quote+within+quote, 0)
				checkAt(t, quote+"a"+within+"b"+quote, 0)
				checkAt(t, quote+within, 0)
			}
		}
		checkAt(t, x+`"a"`, 0)
		checkAt(t, x+`"a"`, 1)
	}
}

// Each number of four hex digits, and each two halves.
func TestEveryUnit(t *testing.T) {
	for n := range 1 << 16 {
		small, great := fmt.Sprintf("%04x", n), fmt.Sprintf("%04X", n)
		for _, d := range []string{small, great} {
			if got, ok := esc.Hex(d); got != n || !ok {
				t.Fatalf("P6.1: Hex(%s): %d, %v", d, got, ok)
			}
			checkAt(t, `"\u`+d+`"`, 0)
		}
		checkAt(t, `"\u`+small+`\u`+great+`"`, 0)
		checkAt(t, `"\ud83d\u`+small+`"`, 0)
		checkAt(t, `"\u`+great+`\uDE00"`, 0)
		checkAt(t, `"\U0000`+great+`"`, 0)
		checkAt(t, `"\U`+small+`0041"`, 0)
	}
	for first := 0xD800; first < 0xDC00; first++ {
		for other := 0xDC00; other < 0xE000; other++ {
			text := `"\u` + strconv.FormatInt(int64(first), 16) + `\u` + strconv.FormatInt(int64(other), 16) + `"`
			want := string(rune(0x10000 + (first-0xD800)*0x400 + other - 0xDC00))
			if s, next, bad := esc.Unquote(text, 0); s != want || next != 14 || bad != -1 {
				t.Fatalf("P6.2: Unquote(%s): %q, %d, %d", text, s, next, bad)
			}
		}
	}
}

func TestHex(t *testing.T) {
	for s, want := range map[string]int{
		"0": 0, "1": 1, "9": 9, "a": 10, "A": 10, "f": 15, "F": 15, "10": 16, "fF": 255, "Ff": 255, "00": 0, "0041": 65, "d800": 0xD800, "10FFFF": 0x10FFFF, "0010ffff": 0x10FFFF,
		"00000000": 0, "00000001": 1, "12345678": 0x12345678, "9abcdef0": 0x9ABCDEF0, "9ABCDEF0": 0x9ABCDEF0, "7fffffff": math.MaxInt32, "80000000": 0x80000000, "ffffffff": math.MaxUint32, "FFFFFFFF": math.MaxUint32, "1234567": 0x1234567,
	} {
		if n, ok := esc.Hex(s); n != want || !ok {
			t.Errorf("P6.1: Hex(%s): %d, %v, want %d", s, n, ok, want)
		}
	}
	for _, s := range []string{
		"", "123456789", "000000000", "000000001", "100000000", "ffffffffffffffff", "10000000000000000", strings.Repeat("0", 1000),
		"g", "G", "0x1", "0X1", "x1", "-1", "+1", "-0", " 1", "1 ", " ", "1_0", "_1", "1_", "1.", ".", "1g", "g1", "1234567g", "g2345678", "/", ":", "@", "`", "1\n", "\x00", "\xff", "1\xff", "\u0661", "\uff11", "\u00e9",
	} {
		if n, ok := esc.Hex(s); n != 0 || ok {
			t.Errorf("P6.1: Hex(%q): %d, %v", s, n, ok)
		}
	}
}

func TestBare(t *testing.T) {
	for _, s := range []string{"a", "z", "A", "Z", "0", "9", "_", "-", "aZ09_-", "key", "a-b", "a_b", "1", "01", "1234", "-1", "--", "true", "inf", strings.Repeat("a", 10000)} {
		if !esc.Bare(s) {
			t.Errorf("P6.4: Bare(%.40q): false", s)
		}
	}
	for _, s := range []string{
		"", " ", "a b", " a", "a ", "a.b", ".", "\"a\"", "'a'", "a\n", "\n", "a=", "#", "/", ":", "@", "[", "`", "{", "+1", "a\x00", "\x7f", "\u00e9", "a\u00e9", "\u212a", "\u0131", "\u0661", "\uff41", "\xff", "a\xff", "\xe1", strings.Repeat("a", 10000) + ".",
	} {
		if esc.Bare(s) {
			t.Errorf("P6.4: Bare(%.40q): true", s[max(0, len(s)-20):])
		}
	}
	for b := range 1 << 16 {
		one, two := string([]byte{byte(b)}), string([]byte{byte(b >> 8), byte(b)})
		if esc.Bare(one) != bareGrammar.MatchString(one) || esc.Bare(two) != bareGrammar.MatchString(two) {
			t.Fatalf("P6.4: Bare(%q), Bare(%q): %v, %v", one, two, esc.Bare(one), esc.Bare(two))
		}
	}
}

// Texts made at random of parts that make a difference, read from each of their places.
func TestGrown(t *testing.T) {
	random := rand.New(rand.NewSource(6))
	parts := []string{`"`, `"`, `"""`, `'`, `'''`, `\`, `\\`, `\"`, `\n`, `\e`, `\/`, `\u0041`, `\ud83d`, `\ude00`, `\U0001F600`, `\U00110000`, "\\\n", "\\ \r\n", " ", "\t", "\n", "\r", "\r\n", "\x7f", "\x01", "\xff", "\xe2\x82", "\u20ac", "\U0001F600", "a", "0", "u", "-"}
	for range 20000 {
		text := ""
		for range random.Intn(12) {
			text += parts[random.Intn(len(parts))]
		}
		checkText(t, text)
		for at := -1; at <= len(text)+1; at++ {
			checkAt(t, text, at)
		}
	}
}

// TestGreat: long strings are read and written in one go.
func TestGreat(t *testing.T) {
	const times = 1 << 18
	for _, c := range []struct{ text, said string }{
		{"a", "a"}, {"\u20ac", "\u20ac"}, {`\n`, "\n"}, {`\u0041`, "A"}, {`\\`, `\`},
	} {
		within, said := strings.Repeat(c.text, times), strings.Repeat(c.said, times)
		for _, reader := range []struct {
			quote string
			read  func(string, int) (string, int, int)
		}{{`"`, esc.Unquote}, {`"`, esc.TUnquote}, {`"""`, esc.TUnquote}} {
			text := reader.quote + within + reader.quote
			if got, next, bad := reader.read(text, 0); got != said || next != len(text) || bad != -1 {
				t.Errorf("P6.2, P6.3: a string of %d times %q: %d bytes, %d, %d", times, c.text, len(got), next, bad)
			}
			if got, next, bad := reader.read(text[:len(text)-1], 0); got != "" || next != 0 || bad != len(text)-1 {
				t.Errorf("P6.2, P6.3: a string of %d times %q that does not end: %d bytes, %d, %d", times, c.text, len(got), next, bad)
			}
		}
		if back, _, bad := esc.Unquote(esc.Quote(said), 0); back != said || bad != -1 {
			t.Errorf("P6.2: Unquote of Quote of %d times %q: %d bytes, %d", times, c.said, len(back), bad)
		}
		if back, _, bad := esc.TUnquote(esc.TQuote(said), 0); back != said || bad != -1 {
			t.Errorf("P6.3: TUnquote of TQuote of %d times %q: %d bytes, %d", times, c.said, len(back), bad)
		}
	}
	for _, blanks := range []string{" ", "\t", "\r\n", "\n", "\\\n"} {
		text := "\"\"\"a\\\n" + strings.Repeat(blanks, times) + `b"""`
		if got, next, bad := esc.TUnquote(text, 0); got != "ab" || next != len(text) || bad != -1 {
			t.Errorf("P6.3: %d times %q behind a \\: %d bytes, %d, %d", times, blanks, len(got), next, bad)
		}
	}
	if got := esc.Quote(strings.Repeat("\xff", times)); got != `"`+strings.Repeat("\ufffd", times)+`"` {
		t.Errorf("P6.1: Quote of %d bytes that begin no letter: %d bytes", times, len(got))
	}
}

func FuzzText(f *testing.F) {
	for _, c := range tomlRight {
		f.Add(c.text, 0)
	}
	for _, c := range jsonWrong {
		f.Add("x"+c.right+c.rest, 1)
	}
	for _, c := range tomlWrong {
		f.Add(c.right+c.rest, 0)
	}
	f.Fuzz(func(t *testing.T, text string, at int) {
		checkText(t, text)
		checkAt(t, text, at)
	})
}
