package tlex_test

import (
	"math"
	"slices"
	"strings"
	"testing"

	"dragoman/api"
	"dragoman/tlex"
)

// skipped are texts that are passed over whole: without lines, too, or with them alone.
var skipped = []struct {
	text  string
	plain bool
}{
	{"", true}, {" ", true}, {"\t", true}, {"  ", true}, {"\t\t", true}, {" \t \t", true},
	{"\n", false}, {"\r\n", false}, {"\n\n", false}, {"\r\n\r\n", false}, {"\n\r\n", false}, {"\r\n\n", false}, {"\n \t\n", false}, {"\n\t\r\n ", false},
	// Remarks: up to a 10, or a 13 with a 10 behind it; what stands in them is not looked at.
	{"#\n", false}, {"#\r\n", false}, {"# a = 1 #\n", false}, {"##\n#\n", false}, {"#a\n \t#b\r\n#c\n", false}, {"#\"'[\n", false}, {"#\x00\x7f\n", false}, {"#\xff\u20ac\n", false},
	// A 13 without a 10 behind it is of the remark.
	{"#\r \n", false}, {"#a\rb\r\r\n", false}, {"#\r\r\n", false}, {"#\r#\n", false},
}

// stops are texts of which nothing is passed over, with lines or without.
var stops = []string{
	"", "x", "\r", "\rx", "\r\r\n", "\r \n", "\r#", "\v", "\f", "\x00", "\x0b\n", "\x1f", "\x7f", "\u00a0", "\u2028", "\u3000", "\u0085", "\ufeff", "\xff", "\xa0", "=", ".", "a b", "\"#\"", "'", "\\\n", ";", "/", "//", "[", "0",
}

func TestSkip(t *testing.T) {
	for _, c := range skipped {
		for _, stop := range stops {
			for _, ahead := range []string{"", "x", " ", "\n", "#", "\r", "\u20ac"} {
				text, at := ahead+c.text+stop, len(ahead)
				if got := tlex.Skip(text, at, true); got != at+len(c.text) {
					t.Errorf("P10.1: Skip(%q, %d, true): %d, want %d", text, at, got, at+len(c.text))
				}
				want := at + len(c.text)
				if !c.plain {
					want = at + len(c.text) - len(strings.TrimLeft(c.text, " \t"))
				}
				if got := tlex.Skip(text, at, false); got != want {
					t.Errorf("P10.1: Skip(%q, %d, false): %d, want %d", text, at, got, want)
				}
			}
		}
	}
}

// TestSkipToEnd: a remark goes up to the text's end, if no line ends ahead of that.
func TestSkipToEnd(t *testing.T) {
	for _, text := range []string{"#", "#a", "# a # b", "#\r", "#a\r", "#\r\r", "#a\rb", "\n#", " # \xff", "#a\n#b", "#a\r\n\t#b\r", "#\u20ac", "#" + strings.Repeat("x", 70000), strings.Repeat("#\n", 40000), strings.Repeat(" \r\n\t", 40000)} {
		if got := tlex.Skip(text, 0, true); got != len(text) {
			t.Errorf("P10.1: Skip(%.40q, 0, true): %d, want %d", text, got, len(text))
		}
	}
	for _, text := range []string{"#", "#a", "#\n", "\n", "\r\n", "\n#", "#\r"} {
		if got := tlex.Skip(text, 0, false); got != 0 {
			t.Errorf("P10.1: Skip(%q, 0, false): %d, want 0", text, got)
		}
	}
}

// below are places ahead of a text, above such that lie behind one, whatever text it is.
var (
	below = []int{-1, -2, -3, -1 << 31, -1 << 32, math.MinInt + 1, math.MinInt}
	above = []int{1 << 20, 1 << 31, 1 << 32, math.MaxInt - 1, math.MaxInt}
)

// TestSkipAt: a place that is not in the text is drawn into it.
func TestSkipAt(t *testing.T) {
	for _, c := range []struct {
		text         string
		plain, lines int
	}{
		{"", 0, 0}, {"x", 0, 0}, {"  x", 2, 2}, {" \t", 2, 2}, {" \nx", 1, 2}, {"#a\n x", 0, 4}, {"\r\n", 0, 2}, {"\r", 0, 0}, {" #", 1, 2},
	} {
		for _, at := range below {
			if plain, lines := tlex.Skip(c.text, at, false), tlex.Skip(c.text, at, true); plain != c.plain || lines != c.lines {
				t.Errorf("P10.1: Skip(%q, %d): %d and %d, want %d and %d", c.text, at, plain, lines, c.plain, c.lines)
			}
		}
		for _, at := range append(above, len(c.text), len(c.text)+1) {
			if plain, lines := tlex.Skip(c.text, at, false), tlex.Skip(c.text, at, true); plain != len(c.text) || lines != len(c.text) {
				t.Errorf("P10.1: Skip(%q, %d): %d and %d, want %d", c.text, at, plain, lines, len(c.text))
			}
		}
	}
}

// keys are keys, and their parts.
var keys = []struct {
	text  string
	parts []string
}{
	// The chapter's example.
	{`a."b c".d`, []string{"a", "b c", "d"}},
	// Bare ones.
	{"a", []string{"a"}}, {"Z", []string{"Z"}}, {"0", []string{"0"}}, {"9", []string{"9"}}, {"_", []string{"_"}}, {"-", []string{"-"}}, {"aZ09_-", []string{"aZ09_-"}}, {"--", []string{"--"}}, {"01", []string{"01"}}, {"true", []string{"true"}}, {"inf", []string{"inf"}}, {"-1", []string{"-1"}}, {"1979-05-27", []string{"1979-05-27"}},
	{"a.b", []string{"a", "b"}}, {"a.b.c", []string{"a", "b", "c"}}, {"a.a", []string{"a", "a"}}, {"1.2", []string{"1", "2"}}, {"1e5.-0", []string{"1e5", "-0"}}, {"_.-._", []string{"_", "-", "_"}},
	// Strings of one line, with each quote.
	{`""`, []string{""}}, {`''`, []string{""}}, {`"a"`, []string{"a"}}, {`'a'`, []string{"a"}}, {`"a.b"`, []string{"a.b"}}, {`'a.b'`, []string{"a.b"}}, {`" a "`, []string{" a "}}, {"'\ta'", []string{"\ta"}}, {`"'"`, []string{"'"}}, {`'"'`, []string{`"`}}, {`"''"`, []string{"''"}}, {`'""'`, []string{`""`}},
	{`"\n\"\\\u20ac\U0001F600\e"`, []string{"\n\"\\\u20ac\U0001F600\x1b"}}, {`'\n\"'`, []string{`\n\"`}}, {"\"\u20ac\"", []string{"\u20ac"}}, {"'\U0001F600'", []string{"\U0001F600"}}, {`"#"`, []string{"#"}}, {`"="`, []string{"="}},
	{`"".""`, []string{"", ""}}, {`''.''`, []string{"", ""}}, {`"".''.a`, []string{"", "", "a"}}, {`"a".'b'.c`, []string{"a", "b", "c"}}, {`a.'b'."c"`, []string{"a", "b", "c"}}, {`"\"".'.'`, []string{`"`, "."}},
	// Blanks and 9 about the dots.
	{"a .b", []string{"a", "b"}}, {"a. b", []string{"a", "b"}}, {"a . b", []string{"a", "b"}}, {"a\t.\tb", []string{"a", "b"}}, {"a \t . \t b", []string{"a", "b"}}, {"a  .b.  c", []string{"a", "b", "c"}}, {`"a" . 'b' .c`, []string{"a", "b", "c"}}, {"\"\" . \"\"", []string{"", ""}}, {"'' \t.\t ''", []string{"", ""}},
	// Long ones: no part is too long for a key.
	{strings.Repeat("a", 70000), []string{strings.Repeat("a", 70000)}}, {`"` + strings.Repeat("a", api.MaxStr+1) + `"`, []string{strings.Repeat("a", api.MaxStr+1)}}, {"a" + strings.Repeat(".a", 9999), slices.Repeat([]string{"a"}, 10000)},
}

// keyBehinds may stand behind any key, and are not looked at.
var keyBehinds = []string{"", " ", "\t", " \t", "=", " = 1", "\t=\t", "]", " ]", "\n", "\r\n", " \n", "\n.b", " \n.b", "\r.b", "\v.b", "\u00a0.b", "#", "#.b", " #", ",", "}", "\u00e9", "\xff", "\x00", "\x7f", "+", ":", "/", "\\", " a", " a.b", " \"b\"", "\t'b'", "\u3002b", "\uff0eb"}

// short is a text's beginning, so that long ones can be told.
func short(s string) string { return s[:min(len(s), 60)] }

// aheads stand ahead of what is read from another place than 0.
var aheads = []string{"", " ", "x", "a.", ".", `"`, `'`, `\`, "\n", "\xff", "\u20ac", "1979-05-27 ", "0x"}

func TestKey(t *testing.T) {
	for _, c := range keys {
		behinds := keyBehinds
		if last := c.text[len(c.text)-1]; last == '"' || last == '\'' {
			behinds = append(slices.Clip(behinds), "a", "-", "1")
		} else {
			behinds = append(slices.Clip(behinds), `"b"`, `'b'`, `"`, "'''")
		}
		for _, ahead := range aheads {
			for _, behind := range behinds {
				text, at := ahead+c.text+behind, len(ahead)
				parts, next, bad := tlex.Key(text, at)
				if !slices.Equal(parts, c.parts) || next != at+len(c.text) || bad != -1 {
					t.Errorf("P10.1: Key(%q, %d): %.100q, %d, %d, want %.100q, %d, -1", short(text), at, parts, next, bad, c.parts, at+len(c.text))
				}
			}
		}
	}
}

// wrongKeys are texts with a fault: what is right of it, and the rest from the fault on.
var wrongKeys = []struct{ right, rest string }{
	// No part.
	{"", ""}, {"", " a"}, {"", "\ta"}, {"", "\na"}, {"", "="}, {"", "= 1"}, {"", "]"}, {"", "["}, {"", "#"}, {"", "+a"}, {"", ":"}, {"", "/"}, {"", "@"}, {"", "`"}, {"", "{"}, {"", "\\"}, {"", "\x00"}, {"", "\x7f"}, {"", "\u00e9"}, {"", "\u0661"}, {"", "\uff41"}, {"", "\xff"}, {"", "\xe1"},
	// A dot at its beginning, at its end, and two.
	{"", "."}, {"", ".a"}, {"", ". a"}, {"", " .a"}, {"", "..a"}, {"a.", ""}, {"a. ", ""}, {"a . \t", ""}, {"a.b.", ""}, {`"a".`, ""}, {"'a'.", ""}, {"a.", ".b"}, {"a. ", ".b"}, {"a.b.", "."}, {`"a" . `, `. "b"`}, {"a. ", "= 1"}, {"a.", "= 1"}, {"a.", "]"}, {"a. ", "]"}, {"a.", ","}, {"a.", "#"},
	// No part behind a dot.
	{"a.", "\nb"}, {"a. ", "\nb"}, {"a.", "\r\nb"}, {"a.", "\vb"}, {"a.", "\u00a0b"}, {"a.", "+b"}, {"a.", "\u00e9"}, {"a. ", "\u20ac"}, {"a.", "\xff"}, {"a.b. ", "\x00"}, {"a.", "\x7f"}, {`"a".`, "\\"}, {"'a'. ", ":"},
	// A string of many lines: at its beginning, be it right or wrong.
	{"", `""""""`}, {"", "''''''"}, {"", `"""a"""`}, {"", "'''a'''"}, {"", `"""`}, {"", "'''"}, {"", `"""a`}, {"", "'''a"}, {"", "\"\"\"\na\"\"\""}, {"", `"""\q"""`}, {"", "'''\xff'''"}, {"", `"""".a`}, {"", "'''a'.b"}, {"", `"""a".b`},
	{"a.", `"""b"""`}, {"a.", "'''b'''"}, {"a. ", `"""b`}, {"a .\t", "'''"}, {`"".`, `""""""`}, {"''.", "''''''.a"}, {"a.b.", `"""\q"""`},
	// A string of one line that is wrong: as esc tells.
	{`"`, ""}, {`'`, ""}, {`"a`, ""}, {`'a`, ""}, {`"a.b`, ""}, {`'a.b`, ""}, {`"a'`, ""}, {`'a"`, ""}, {`"\"`, ""}, {`a."b`, ""}, {`a.'b`, ""}, {`"a"."b`, ""}, {`"a". 'b`, ""},
	{`"a`, "\nb\""}, {`'a`, "\nb'"}, {`"a`, "\r\n\""}, {`'`, "\x00'"}, {`"`, "\x7f\""}, {`a.'b`, "\n'"}, {`"a`, "\xff\""}, {`'`, "\xe2\x82'"}, {`a."`, "\x80\""},
	{`"`, `\q"`}, {`"a`, `\x41"`}, {`"`, `\u00"`}, {`"`, `\ud800"`}, {`"`, `\U00110000"`}, {`"a`, `\`}, {`a."b`, `\ "`}, {`"a". "b\n`, `\/"`}, {`"a`, "\\\n\""},
}

func TestWrongKey(t *testing.T) {
	for _, ahead := range aheads {
		for _, c := range wrongKeys {
			text, at := ahead+c.right+c.rest, len(ahead)
			parts, next, bad := tlex.Key(text, at)
			if bad != at+len(c.right) {
				t.Errorf("P10.1: Key(%q, %d): %q, %d, %d, want the fault at %d", text, at, parts, next, bad, at+len(c.right))
			}
			if len(parts) != 0 || next != 0 {
				t.Errorf("R2: Key(%q, %d): %q, %d beside a fault", text, at, parts, next)
			}
		}
	}
}

// TestKeyAt: at a place that is not in the text, or at its end, no key begins.
func TestKeyAt(t *testing.T) {
	for _, text := range []string{"", "a", "abc", "a.b", `"a"`, "'a'", "\u20ac", " "} {
		for _, at := range below {
			if parts, next, bad := tlex.Key(text, at); len(parts) != 0 || next != 0 || bad != 0 {
				t.Errorf("P10.1: Key(%q, %d): %q, %d, %d", text, at, parts, next, bad)
			}
		}
		for _, at := range append(above, len(text), len(text)+1) {
			if parts, next, bad := tlex.Key(text, at); len(parts) != 0 || next != 0 || bad != len(text) {
				t.Errorf("P10.1: Key(%q, %d): %q, %d, %d", text, at, parts, next, bad)
			}
		}
	}
}
