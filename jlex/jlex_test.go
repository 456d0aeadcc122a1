package jlex_test

import (
	"encoding/json"
	"fmt"
	"math/rand"
	"regexp"
	"slices"
	"strings"
	"testing"
	"unicode/utf8"
	"unsafe"

	"dragoman/api"
	"dragoman/jlex"
	"dragoman/utf"
)

// The kinds of words, as the chapter numbers them.
const (
	end    = 0
	mark   = 1
	str    = 2
	number = 3
	name   = 4
)

// words are some words, ahead of the end.
type words []jlex.Word

// short tells a text's head, so that long ones can be told.
func short(s string) string {
	if len(s) <= 60 {
		return fmt.Sprintf("%q", s)
	}
	return fmt.Sprintf("%q and so on, %d bytes", s[:60], len(s))
}

// faultAt is a fault with its line and column.
func faultAt(text string, at int, e api.Errno) api.Fault {
	line := text[strings.LastIndexByte(text[:at], 10)+1 : at]
	return api.Fault{Err: e, At: at, Line: strings.Count(text[:at], "\n") + 1, Col: utf8.RuneCountInString(line) + 1}
}

// cuts tells that a text has just these words and the end.
func cuts(t *testing.T, text string, want words) {
	t.Helper()
	got, fault := jlex.Cut(text)
	if fault != (api.Fault{}) {
		t.Errorf("P7.1: Cut(%s): the fault %+v", short(text), fault)
		return
	}
	want = append(slices.Clip(want), jlex.Word{Kind: end, At: len(text)})
	if !slices.Equal(got, want) {
		t.Errorf("P7.1: Cut(%s): %.300s, want %.300s", short(text), fmt.Sprintf("%+v", got), fmt.Sprintf("%+v", want))
	}
}

// refuses tells that a text has just this fault, and no words.
func refuses(t *testing.T, text string, at int, e api.Errno) {
	t.Helper()
	got, fault := jlex.Cut(text)
	if want := faultAt(text, at, e); fault != want {
		t.Errorf("P7.1: Cut(%s): %d words, %+v, want %+v", short(text), len(got), fault, want)
	}
	if fault.Err != api.OK && len(got) != 0 {
		t.Errorf("P7.1: Cut(%s): %d words beside the fault %+v", short(text), len(got), fault)
	}
}

// right are texts with their words.
var right = []struct {
	text string
	want words
}{
	// The chapter's example.
	{`[1]`, words{{mark, "[", 0}, {number, "1", 1}, {mark, "]", 2}}},
	// Nothing, and blanks alone.
	{"", nil}, {" ", nil}, {"\t", nil}, {"\n", nil}, {"\r", nil}, {" \t\n\r", nil}, {"\r\n\r\n", nil}, {"    \n\n", nil},
	// Each mark.
	{"{", words{{mark, "{", 0}}}, {"}", words{{mark, "}", 0}}}, {"[", words{{mark, "[", 0}}}, {"]", words{{mark, "]", 0}}}, {":", words{{mark, ":", 0}}}, {",", words{{mark, ",", 0}}},
	{"{}[]:,", words{{mark, "{", 0}, {mark, "}", 1}, {mark, "[", 2}, {mark, "]", 3}, {mark, ":", 4}, {mark, ",", 5}}},
	{",,:]]}}", words{{mark, ",", 0}, {mark, ",", 1}, {mark, ":", 2}, {mark, "]", 3}, {mark, "]", 4}, {mark, "}", 5}, {mark, "}", 6}}},
	// Strings, what they say and not how.
	{`""`, words{{str, "", 0}}}, {`"a"`, words{{str, "a", 0}}}, {`"a b"`, words{{str, "a b", 0}}}, {`"/'"`, words{{str, "/'", 0}}}, {"\"\x7f\"", words{{str, "\x7f", 0}}},
	{`"\"\\\/\b\f\n\r\t"`, words{{str, "\"\\/\b\f\n\r\t", 0}}}, {`"\u0041\u20AC\ud83d\uDE00"`, words{{str, "A\u20ac\U0001F600", 0}}}, {`"\u0000"`, words{{str, "\x00", 0}}},
	{"\"\u20ac\U0001F600\ufffd\u2028\"", words{{str, "\u20ac\U0001F600\ufffd\u2028", 0}}}, {`"\\"`, words{{str, `\`, 0}}}, {`"\\\""`, words{{str, `\"`, 0}}},
	{`"true"`, words{{str, "true", 0}}}, {`"1"`, words{{str, "1", 0}}}, {`"[#]"`, words{{str, "[#]", 0}}}, {`"{\"a\":1}"`, words{{str, `{"a":1}`, 0}}}, {`" a "`, words{{str, " a ", 0}}},
	// Numbers, as they stand.
	{"0", words{{number, "0", 0}}}, {"-0", words{{number, "-0", 0}}}, {"7", words{{number, "7", 0}}}, {"-7", words{{number, "-7", 0}}}, {"1234567890", words{{number, "1234567890", 0}}},
	{"1.5", words{{number, "1.5", 0}}}, {"1.50", words{{number, "1.50", 0}}}, {"-0.0", words{{number, "-0.0", 0}}}, {"0.007", words{{number, "0.007", 0}}},
	{"1e5", words{{number, "1e5", 0}}}, {"1E5", words{{number, "1E5", 0}}}, {"1e+5", words{{number, "1e+5", 0}}}, {"1E-5", words{{number, "1E-5", 0}}}, {"1e005", words{{number, "1e005", 0}}}, {"1e0", words{{number, "1e0", 0}}}, {"-12.50e-07", words{{number, "-12.50e-07", 0}}}, {"0e0", words{{number, "0e0", 0}}},
	{"18446744073709551616", words{{number, "18446744073709551616", 0}}},
	// The three words of letters.
	{"true", words{{name, "true", 0}}}, {"false", words{{name, "false", 0}}}, {"null", words{{name, "null", 0}}},
	{"true false null", words{{name, "true", 0}, {name, "false", 5}, {name, "null", 11}}},
	// No blank between.
	{`""""`, words{{str, "", 0}, {str, "", 2}}}, {`"a""b"`, words{{str, "a", 0}, {str, "b", 3}}}, {`"a"1`, words{{str, "a", 0}, {number, "1", 3}}}, {`1"a"`, words{{number, "1", 0}, {str, "a", 1}}}, {`true"a"`, words{{name, "true", 0}, {str, "a", 4}}}, {`"a"true`, words{{str, "a", 0}, {name, "true", 3}}},
	{"1true", words{{number, "1", 0}, {name, "true", 1}}}, {"1.5null", words{{number, "1.5", 0}, {name, "null", 3}}}, {"1e5false", words{{number, "1e5", 0}, {name, "false", 3}}}, {"true1", words{{name, "true", 0}, {number, "1", 4}}}, {"null-1", words{{name, "null", 0}, {number, "-1", 4}}}, {"false0e0", words{{name, "false", 0}, {number, "0e0", 5}}},
	{"[]", words{{mark, "[", 0}, {mark, "]", 1}}}, {"[true]", words{{mark, "[", 0}, {name, "true", 1}, {mark, "]", 5}}}, {"1,2", words{{number, "1", 0}, {mark, ",", 1}, {number, "2", 2}}}, {"1:-2", words{{number, "1", 0}, {mark, ":", 1}, {number, "-2", 2}}},
	{`{"a":[1,true],"b":null}`, words{{mark, "{", 0}, {str, "a", 1}, {mark, ":", 4}, {mark, "[", 5}, {number, "1", 6}, {mark, ",", 7}, {name, "true", 8}, {mark, "]", 12}, {mark, ",", 13}, {str, "b", 14}, {mark, ":", 17}, {name, "null", 18}, {mark, "}", 22}}},
	// Blanks ahead, between and behind; words that say another number of bytes than they have.
	{" 1", words{{number, "1", 1}}}, {"\t1", words{{number, "1", 1}}}, {"\n1", words{{number, "1", 1}}}, {"\r1", words{{number, "1", 1}}}, {"1 ", words{{number, "1", 0}}}, {"1\t", words{{number, "1", 0}}}, {"1\n", words{{number, "1", 0}}}, {"1\r", words{{number, "1", 0}}},
	{"1 2", words{{number, "1", 0}, {number, "2", 2}}}, {"1\t2", words{{number, "1", 0}, {number, "2", 2}}}, {"1\n2", words{{number, "1", 0}, {number, "2", 2}}}, {"1\r2", words{{number, "1", 0}, {number, "2", 2}}}, {"1 \t2", words{{number, "1", 0}, {number, "2", 3}}},
	{"\r\n { \"a\\u0041\" :\t\"\u20ac\" }\n", words{{mark, "{", 3}, {str, "aA", 5}, {mark, ":", 15}, {str, "\u20ac", 17}, {mark, "}", 23}}},
	{"true\n\nfalse", words{{name, "true", 0}, {name, "false", 6}}}, {`"\n" "x"`, words{{str, "\n", 0}, {str, "x", 5}}},
}

func TestWords(t *testing.T) {
	for _, c := range right {
		cuts(t, c.text, c.want)
	}
}

// spelt are words as they are written, and what they say.
var spelt = []struct {
	written string
	kind    int
	said    string
}{
	{"{", mark, "{"}, {"}", mark, "}"}, {"[", mark, "["}, {"]", mark, "]"}, {":", mark, ":"}, {",", mark, ","},
	{`""`, str, ""}, {`"a"`, str, "a"}, {`"\u00e9\n"`, str, "\u00e9\n"}, {"\"\u20ac\"", str, "\u20ac"}, {`"\ud83d\ude00"`, str, "\U0001F600"}, {`"\"\\"`, str, `"\`},
	{"0", number, "0"}, {"-12.5", number, "-12.5"}, {"1E+5", number, "1E+5"}, {"3e-07", number, "3e-07"},
	{"true", name, "true"}, {"false", name, "false"}, {"null", name, "null"},
}

// TestEachThree: any three words, with any blanks about them, are cut apart.
func TestEachThree(t *testing.T) {
	gaps := []string{"", " ", "\t", "\n", "\r", "\r\n", " \t\n\r "}
	random := rand.New(rand.NewSource(7))
	for i := range len(spelt) * len(spelt) * len(spelt) {
		text := gaps[random.Intn(len(gaps))]
		want := words{}
		last := mark
		for _, w := range []int{i % len(spelt), i / len(spelt) % len(spelt), i / len(spelt) / len(spelt)} {
			// Two numbers, or two words of letters, with no blank between would be one row.
			if last == spelt[w].kind && last >= number && strings.TrimRight(text, " \t\n\r") == text {
				text += gaps[1+random.Intn(len(gaps)-1)]
			}
			want = append(want, jlex.Word{Kind: spelt[w].kind, Text: spelt[w].said, At: len(text)})
			text += spelt[w].written + gaps[random.Intn(len(gaps))]
			last = spelt[w].kind
		}
		cuts(t, text, want)
	}
}

// wrong are texts that have a fault just behind what is right of them.
var wrong = []struct {
	right, rest string
	err         api.Errno
}{
	// A byte that begins no letter, within a string too, and behind another fault.
	{"", "\xff", api.EUTF}, {"", "\x80", api.EUTF}, {"[", "\xff", api.EUTF}, {"[1,", "\xc0\x80]", api.EUTF}, {"1", "\xe2\x82", api.EUTF}, {"", "\xe2\x82", api.EUTF}, {"\u20ac", "\xac", api.EUTF}, {"1 ", "\xed\xa0\x80", api.EUTF}, {"1 ", "\xf4\x90\x80\x80", api.EUTF}, {"1 ", "\xf8\x88\x80\x80\x80", api.EUTF},
	{`"`, "\xff\"", api.EUTF}, {`"a`, "\xff", api.EUTF}, {`"\`, "\xff\"", api.EUTF}, {`"\u00`, "\xff\"", api.EUTF}, {"\"\u20ac", "\xe2\x82\"", api.EUTF},
	{"#", "\xff", api.EUTF}, {"# [tru", "\xff", api.EUTF}, {"01 ", "\xff", api.EUTF}, {"1e100001 ", "\xff", api.EUTF}, {`"\q" `, "\xff", api.EUTF}, {`"a`, "\xff#", api.EUTF}, {"\"\n\" ", "\xff", api.EUTF}, {strings.Repeat("9", 401), "\xff", api.EUTF}, {`"` + strings.Repeat("x", 4097) + `"`, "\xff", api.EUTF}, {"\ufffd", "\xff\ufffd", api.EUTF}, {"\ufffd\ufffd", "\xef\xbf", api.EUTF},
	// A byte at which no word begins.
	{"", "#", api.ESYNTAX}, {"", "'a'", api.ESYNTAX}, {"", "`", api.ESYNTAX}, {"", "(", api.ESYNTAX}, {"", ";", api.ESYNTAX}, {"", "=", api.ESYNTAX}, {"", "_", api.ESYNTAX}, {"", "/", api.ESYNTAX}, {"", "// x", api.ESYNTAX}, {"", "/* */1", api.ESYNTAX}, {"", "\\", api.ESYNTAX}, {"", "*", api.ESYNTAX}, {"", "@", api.ESYNTAX}, {"", "|", api.ESYNTAX}, {"", "~", api.ESYNTAX},
	{"", "\x00", api.ESYNTAX}, {"", "\x08", api.ESYNTAX}, {"", "\v1", api.ESYNTAX}, {"", "\f1", api.ESYNTAX}, {"", "\x1f", api.ESYNTAX}, {"", "\x7f", api.ESYNTAX}, {"1 ", "\v", api.ESYNTAX}, {"1", "\x00", api.ESYNTAX},
	{"", "\u00a01", api.ESYNTAX}, {"", "\ufeff1", api.ESYNTAX}, {"1", "\u2028", api.ESYNTAX}, {"", "\u0085", api.ESYNTAX}, {"", "\u3000", api.ESYNTAX}, {"", "\u00e9", api.ESYNTAX}, {"", "\ufffd", api.ESYNTAX}, {"", "\u0661", api.ESYNTAX}, {"1", "\uff12", api.ESYNTAX}, {"", "\u22121", api.ESYNTAX}, {"", "\u201ca\u201d", api.ESYNTAX}, {"", "\U0001F600", api.ESYNTAX}, {"", "\uff5b", api.ESYNTAX},
	{"[", "#]", api.ESYNTAX}, {"[1] ", ";", api.ESYNTAX}, {"true ", "True", api.ESYNTAX}, {"", "True", api.ESYNTAX}, {"", "TRUE", api.ESYNTAX}, {"", "Null", api.ESYNTAX}, {"", "NaN", api.ESYNTAX}, {"", "A", api.ESYNTAX}, {"", "Z", api.ESYNTAX}, {`"a\n"`, `\n`, api.ESYNTAX}, {"[1,\n  ", "\u20ac#", api.ESYNTAX}, {"\"\u20ac\U0001F600\" ", "#", api.ESYNTAX},
	{"true", "_", api.ESYNTAX}, {"true", "X", api.ESYNTAX}, {"null", "\u00e9", api.ESYNTAX}, {"1", "_0", api.ESYNTAX}, {"1", "A", api.ESYNTAX}, {"1", "#", api.ESYNTAX}, {"1.5", "/2", api.ESYNTAX}, {"1", "X", api.ESYNTAX},
	// A row of small letters that is none of the three words.
	{"", "t", api.ESYNTAX}, {"", "tru", api.ESYNTAX}, {"", "truee", api.ESYNTAX}, {"", "truefalse", api.ESYNTAX}, {"", "falsetrue", api.ESYNTAX}, {"", "fals", api.ESYNTAX}, {"", "falses", api.ESYNTAX}, {"", "nul", api.ESYNTAX}, {"", "nulls", api.ESYNTAX}, {"", "nullnull", api.ESYNTAX}, {"", "nil", api.ESYNTAX}, {"", "yes", api.ESYNTAX}, {"", "undefined", api.ESYNTAX}, {"", "inf", api.ESYNTAX}, {"", "nan", api.ESYNTAX}, {"", "a", api.ESYNTAX}, {"", "z", api.ESYNTAX},
	{"", "tRUE", api.ESYNTAX}, {"", "trUe", api.ESYNTAX}, {"", "tr ue", api.ESYNTAX}, {"", "tru\u0435", api.ESYNTAX}, {"", "e", api.ESYNTAX}, {"", "e5", api.ESYNTAX}, {"", "e+5", api.ESYNTAX}, {"", "truee5", api.ESYNTAX}, {"", "xtrue", api.ESYNTAX}, {"true ", "tru", api.ESYNTAX}, {"[true,", "fale]", api.ESYNTAX}, {"1", "x", api.ESYNTAX}, {"0", "x1f", api.ESYNTAX}, {"1.5", "f", api.ESYNTAX}, {"true1", "truex", api.ESYNTAX}, {"", strings.Repeat("a", 5000), api.ESYNTAX}, {"true ", strings.Repeat("true", 1000), api.ESYNTAX},
	// A row of number bytes that is no number.
	{"", "+1", api.ESYNTAX}, {"", ".5", api.ESYNTAX}, {"", "1.", api.ESYNTAX}, {"", "01", api.ESYNTAX}, {"", "-", api.ESYNTAX}, {"", "1e", api.ESYNTAX}, {"", "E1", api.ESYNTAX}, {"", "1-2", api.ESYNTAX},
	{"", "+", api.ESYNTAX}, {"", ".", api.ESYNTAX}, {"", "E", api.ESYNTAX}, {"", "--1", api.ESYNTAX}, {"", "-+1", api.ESYNTAX}, {"", "+-1", api.ESYNTAX}, {"", "1+2", api.ESYNTAX}, {"", "-01", api.ESYNTAX}, {"", "00", api.ESYNTAX}, {"", "-.5", api.ESYNTAX}, {"", "1.2.3", api.ESYNTAX}, {"", "1..2", api.ESYNTAX}, {"", "1.e5", api.ESYNTAX}, {"", "1e+", api.ESYNTAX}, {"", "1e-", api.ESYNTAX}, {"", "1e5.", api.ESYNTAX}, {"", "1e5.5", api.ESYNTAX}, {"", "1ee5", api.ESYNTAX}, {"", "1e5e5", api.ESYNTAX}, {"", "1e+-5", api.ESYNTAX}, {"", "1E+5-", api.ESYNTAX}, {"", "-e5", api.ESYNTAX}, {"", "-E5", api.ESYNTAX},
	{"", "- 1", api.ESYNTAX}, {"1 ", "+ 2", api.ESYNTAX}, {"[1,", "01]", api.ESYNTAX}, {"true", "E5", api.ESYNTAX}, {"true", "+1", api.ESYNTAX}, {"\"a\"", "+", api.ESYNTAX}, {"", "1else", api.ESYNTAX}, {"", "-true", api.ESYNTAX}, {"", "-inf", api.ESYNTAX},
	// What stands behind e is too great, and just that is wrong.
	{"", "1e100001", api.ERANGE}, {"", "1E100001", api.ERANGE}, {"", "1e+100001", api.ERANGE}, {"", "1e-100001", api.ERANGE}, {" ", "1e-9999999999", api.ERANGE}, {"[1,", "-2.5E+999999]", api.ERANGE}, {"", "0e100001", api.ERANGE}, {"", "1e0000100001", api.ERANGE}, {"", "1e-000000100001", api.ERANGE}, {"", "1e200000", api.ERANGE}, {"", "1e1000000", api.ERANGE},
	{"", "1e18446744073709551616", api.ERANGE}, {"", "1e-18446744073709551617", api.ERANGE}, {"", "1e4294967296", api.ERANGE}, {"", "1e9223372036854775808", api.ERANGE}, {"", "1e" + strings.Repeat("9", 398), api.ERANGE}, {"", "0.1e100001", api.ERANGE}, {"", "0." + strings.Repeat("0", 200) + "1e100001", api.ERANGE}, {"", "1e100001true", api.ERANGE}, {"", "1e100001x", api.ERANGE},
	{"", "01e100001", api.ESYNTAX}, {"", "1.e100001", api.ESYNTAX}, {"", ".5e100001", api.ESYNTAX}, {"", "+1e100001", api.ESYNTAX}, {"", "-e100001", api.ESYNTAX}, {"", "1e100001.", api.ESYNTAX}, {"", "1e100001.5", api.ESYNTAX}, {"", "1e100001e1", api.ESYNTAX}, {"", "1e1e100001", api.ESYNTAX}, {"", "1e100001-", api.ESYNTAX}, {"", "1e100001+1", api.ESYNTAX}, {"", "1e+-100001", api.ESYNTAX}, {"", "1e1-100001", api.ESYNTAX}, {"", "E100001", api.ESYNTAX}, {"", "e100001", api.ESYNTAX}, {"", "1ee100001", api.ESYNTAX},
	// A string that does not end.
	{`"`, "", api.ESYNTAX}, {`"a`, "", api.ESYNTAX}, {`["a", "b]`, "", api.ESYNTAX}, {`"\"`, "", api.ESYNTAX}, {`"a\\\"`, "", api.ESYNTAX}, {`"""`, "", api.ESYNTAX}, {"\"\u20ac", "", api.ESYNTAX}, {`"a'`, "", api.ESYNTAX}, {`"\u0041`, "", api.ESYNTAX},
	// A string with a byte below 32.
	{`"`, "\x00\"", api.ESYNTAX}, {`"a`, "\n\"", api.ESYNTAX}, {`"a`, "\r\n\"", api.ESYNTAX}, {`"a`, "\tb\"", api.ESYNTAX}, {`"`, "\x1f\"", api.ESYNTAX}, {`["a", "`, "\x01", api.ESYNTAX}, {"\"\u20ac", "\n", api.ESYNTAX}, {`"\n`, "\n\"", api.ESYNTAX},
	// A string with an escape that is none: at its \.
	{`"`, `\q"`, api.ESYNTAX}, {`"`, `\x41"`, api.ESYNTAX}, {`"`, `\'"`, api.ESYNTAX}, {`"`, `\e"`, api.ESYNTAX}, {`"`, `\U00000041"`, api.ESYNTAX}, {`"a`, "\\\n\"", api.ESYNTAX}, {`"a`, `\`, api.ESYNTAX}, {`"a`, `\ "`, api.ESYNTAX}, {`"\\`, `\v"`, api.ESYNTAX}, {`"`, `\N"`, api.ESYNTAX},
	{`"`, `\u"`, api.ESYNTAX}, {`"`, `\u123"`, api.ESYNTAX}, {`"`, `\u12g4"`, api.ESYNTAX}, {`"`, `\u+123"`, api.ESYNTAX}, {`"a`, `\u00`, api.ESYNTAX}, {`"`, `\ud83d"`, api.ESYNTAX}, {`"`, `\ude00"`, api.ESYNTAX}, {`"a`, `\ud83d\u0041"`, api.ESYNTAX}, {`"`, `\ud83dx"`, api.ESYNTAX}, {`["ab",` + "\n" + `"c`, `\q"]`, api.ESYNTAX}, {"\"\u20ac", `\q"`, api.ESYNTAX},
	// Of two faults the first.
	{"[", "tru, 1.]", api.ESYNTAX}, {"[", "1., tru]", api.ESYNTAX}, {"", "1e100001 tru", api.ERANGE}, {"", "tru 1e100001", api.ESYNTAX}, {"", `# "`, api.ESYNTAX}, {`"a" `, `# "\q"`, api.ESYNTAX}, {`"`, `\q" #`, api.ESYNTAX}, {`"`, `\q`, api.ESYNTAX}, {`"`, "\x01\\q", api.ESYNTAX}, {`"`, "\\q\x01", api.ESYNTAX},
	{"", strings.Repeat("9", 401) + " #", api.ELIMIT}, {"", "# " + strings.Repeat("9", 401), api.ESYNTAX}, {"1 ", `"` + strings.Repeat("x", 4097) + `" tru`, api.ELIMIT}, {"1 ", `tru "` + strings.Repeat("x", 4097) + `"`, api.ESYNTAX},
}

// aheads stand ahead of a wrong text, and are right.
var aheads = []string{"", " ", "\n", "\r\n\t", "[1,\n", "\"\u20ac\" ", "{\"\u00e9\\n\":\n \"\U0001F600\", "}

func TestFaults(t *testing.T) {
	for _, c := range wrong {
		for _, ahead := range aheads {
			refuses(t, ahead+c.right+c.rest, len(ahead)+len(c.right), c.err)
		}
	}
	// One place with its line and its column written out.
	if got, fault := jlex.Cut("[1,\n  \u20ac#"); len(got) != 0 || fault != (api.Fault{Err: api.ESYNTAX, At: 6, Line: 2, Col: 3}) {
		t.Errorf("P7.1: a place behind a line's end: %v, %+v", got, fault)
	}
	if got, fault := jlex.Cut("\"\u20ac\u20ac\" #"); len(got) != 0 || fault != (api.Fault{Err: api.ESYNTAX, At: 9, Line: 1, Col: 6}) {
		t.Errorf("P7.1: a place behind letters of many bytes: %v, %+v", got, fault)
	}
}

// filled is a text of just so many bytes: some, then blanks.
func filled(text string, size int) string { return text + strings.Repeat(" ", size-len(text)) }

func TestMostText(t *testing.T) {
	most := strings.Repeat(" ", api.MaxText)
	cuts(t, most, nil)
	cuts(t, filled("[1]", api.MaxText), words{{mark, "[", 0}, {number, "1", 1}, {mark, "]", 2}})
	cuts(t, strings.Repeat("\n", api.MaxText-4)+"true", words{{name, "true", api.MaxText - 4}})
	many := words{}
	for i := range api.MaxText {
		many = append(many, jlex.Word{Kind: mark, Text: ",", At: i})
	}
	cuts(t, strings.Repeat(",", api.MaxText), many)
	refuses(t, filled("#", api.MaxText), 0, api.ESYNTAX)
	refuses(t, most[1:]+"#", api.MaxText-1, api.ESYNTAX)
	refuses(t, most[1:]+"\xff", api.MaxText-1, api.EUTF)
	// One byte more; whatever else is wrong, the text's length is told first.
	for _, head := range []string{"", "[1]", "#", "\xff", `"\q"`, "1e100001", "\n\n", "\u20ac", strings.Repeat("9", 401), `"` + strings.Repeat("x", 4097) + `"`} {
		refuses(t, filled(head, api.MaxText+1), api.MaxText+1, api.ELIMIT)
		refuses(t, filled(head, api.MaxText*3), api.MaxText*3, api.ELIMIT)
	}
	refuses(t, strings.Repeat("\n", api.MaxText+1), api.MaxText+1, api.ELIMIT)
	refuses(t, strings.Repeat("\xff", api.MaxText+1), api.MaxText+1, api.ELIMIT)
	refuses(t, strings.Repeat("\u20ac", api.MaxText/2), api.MaxText/2*3, api.ELIMIT)
}

// What counts is the bytes that a string says, not those by which it is written.
func TestMostStr(t *testing.T) {
	for _, c := range []struct{ written, said string }{
		{"x", "x"}, {`\n`, "\n"}, {`\\`, `\`}, {`\u0041`, "A"}, {"\u00e9", "\u00e9"}, {`\u00e9`, "\u00e9"}, {"\U0001F600", "\U0001F600"}, {`\ud83d\ude00`, "\U0001F600"},
	} {
		times := api.MaxStr / len(c.said)
		most := strings.Repeat(c.written, times)
		said := strings.Repeat(c.said, times)
		cuts(t, `["`+most+`"]`, words{{mark, "[", 0}, {str, said, 1}, {mark, "]", len(most) + 3}})
		cuts(t, `"`+most+`" "`+most+`"`, words{{str, said, 0}, {str, said, len(most) + 3}})
		for _, more := range []string{"x", `\t`, `\u0041`, "\u20ac"} {
			refuses(t, `["`+most+more+`"]`, 1, api.ELIMIT)
			refuses(t, "\n\""+more+most+`" #`, 1, api.ELIMIT)
			refuses(t, `["`+most+more+`\q"]`, 2+len(most+more), api.ESYNTAX)
			refuses(t, `["`+most+more+"\n\"]", 2+len(most+more), api.ESYNTAX)
			refuses(t, `["`+most+more, 2+len(most+more), api.ESYNTAX)
		}
	}
	// Letters of three bytes do not come out even.
	euros := strings.Repeat("\u20ac", 1365)
	cuts(t, `"`+euros+`x"`, words{{str, euros + "x", 0}})
	refuses(t, `"`+euros+`xx"`, 0, api.ELIMIT)
	refuses(t, `"`+euros+`\u20ac"`, 0, api.ELIMIT)
	refuses(t, `"`+strings.Repeat("x", api.MaxText-2)+`"`, 0, api.ELIMIT)
}

func TestMostDigits(t *testing.T) {
	nines := func(n int) string { return strings.Repeat("9", n) }
	noughts := func(n int) string { return strings.Repeat("0", n) }
	for _, most := range []string{
		nines(400), "-" + nines(399), "1." + nines(398), "0." + noughts(398), "-0." + nines(397), "1e" + noughts(398), "1E+" + noughts(391) + "100000", "1." + nines(391) + "e-10000", "1" + noughts(399),
	} {
		if len(most) != api.MaxDigits {
			t.Fatalf("%s has not %d bytes", short(most), api.MaxDigits)
		}
		cuts(t, most, words{{number, most, 0}})
		cuts(t, "["+most+","+most+"]", words{{mark, "[", 0}, {number, most, 1}, {mark, ",", 401}, {number, most, 402}, {mark, "]", 802}})
		cuts(t, most+"true", words{{number, most, 0}, {name, "true", 400}})
		// One byte more of the row, be it a number's or not.
		for _, more := range []string{"0", "9", ".", "-", "+", "e", "E"} {
			refuses(t, most+more, 0, api.ELIMIT)
			refuses(t, "[1,\n"+most+more+"]", 4, api.ELIMIT)
		}
	}
	for _, b := range []string{"+", "-", ".", "E", "0"} {
		refuses(t, strings.Repeat(b, api.MaxDigits), 0, api.ESYNTAX)
		refuses(t, strings.Repeat(b, api.MaxDigits+1), 0, api.ELIMIT)
		refuses(t, " "+strings.Repeat(b, 10000), 1, api.ELIMIT)
	}
	// Too long and too great a power; and one byte less, which is too great alone.
	refuses(t, "1e"+nines(399), 0, api.ELIMIT)
	refuses(t, "1e"+nines(398), 0, api.ERANGE)
	refuses(t, "1e-"+nines(397), 0, api.ERANGE)
	refuses(t, "01e"+nines(397), 0, api.ESYNTAX)
	// A row that begins with a small letter is none of numbers, however long.
	refuses(t, strings.Repeat("e", api.MaxDigits+1), 0, api.ESYNTAX)
}

func TestMostPower(t *testing.T) {
	for _, head := range []string{"1", "0", "-1", "12.50", "-0.0"} {
		for _, e := range []string{"e", "E", "e+", "E+", "e-", "E-", "e0", "e-00", "E+000"} {
			for _, power := range []string{"99999", "100000"} {
				cuts(t, head+e+power, words{{number, head + e + power, 0}})
			}
			for _, power := range []string{"100001", "100010", "200000", "999999", "1000000"} {
				refuses(t, " "+head+e+power, 1, api.ERANGE)
				refuses(t, " +"+head+e+power, 1, api.ESYNTAX)
				refuses(t, " "+head+e+power+".", 1, api.ESYNTAX)
			}
		}
	}
}

// TestNewMemory: R4, no two answers share memory, and none keeps the text.
func TestNewMemory(t *testing.T) {
	for _, c := range right {
		text := strings.Clone(c.text + " ")
		first, _ := jlex.Cut(text)
		for _, w := range first {
			from, at := unsafe.StringData(text), unsafe.StringData(w.Text)
			gap := uintptr(unsafe.Pointer(at)) - uintptr(unsafe.Pointer(from))
			if w.Text != "" && gap < uintptr(len(text)) {
				t.Errorf("R4: Cut(%q) answers a piece of the text itself: %q", text, w.Text)
			}
		}
		second, _ := jlex.Cut(text)
		want := slices.Clone(second)
		clear(first[:cap(first)])
		if !slices.Equal(second, want) {
			t.Errorf("R4: two answers of Cut(%q) share memory", text)
		}
	}
}

// The grammar, said once more.
var (
	blankRow  = regexp.MustCompile(`^[ \t\n\r]+`)
	oneMark   = regexp.MustCompile(`^[{}\[\]:,]`)
	nameRow   = regexp.MustCompile(`^[a-z]+`)
	numberRow = regexp.MustCompile(`^[0-9+\-.E][0-9+\-.eE]*`)
	form      = regexp.MustCompile(`^-?(?:0|[1-9][0-9]*)(?:\.[0-9]+)?(?:[eE][+-]?0*([0-9]+))?$`)
)

const (
	hex  = `[0-9a-fA-F]`
	unit = `(?:[0-9a-ce-fA-CE-F]` + hex + `{3}|[dD][0-7]` + hex + `{2}|[dD][89abAB]` + hex + `{2}\\u[dD][c-fC-F]` + hex + `{2})`
)

var (
	strPieces = regexp.MustCompile(`^"(?:[^"\\\x00-\x1f]|\\["\\/bfnrt]|\\u` + unit + `)*`)
	strWhole  = regexp.MustCompile(strPieces.String() + `"`)
)

// numberErr is what is wrong with a row of number bytes.
func numberErr(row string) api.Errno {
	m := form.FindStringSubmatch(row)
	switch {
	case len(row) > api.MaxDigits:
		return api.ELIMIT
	case m == nil:
		return api.ESYNTAX
	case len(m[1]) > 6 || len(m[1]) == 6 && m[1] > "100000":
		return api.ERANGE
	}
	return api.OK
}

// strErr is what a string that begins a text says, and how many bytes it has; or what is wrong with it, and where.
func strErr(rest string) (string, int, api.Errno) {
	whole := strWhole.FindString(rest)
	if whole == "" {
		return "", len(strPieces.FindString(rest)), api.ESYNTAX
	}
	var said string
	if err := json.Unmarshal([]byte(whole), &said); err != nil {
		panic(err)
	}
	if len(said) > api.MaxStr {
		return "", 0, api.ELIMIT
	}
	return said, len(whole), api.OK
}

// expected is what Cut must answer, worked out in another way.
func expected(text string) (words, api.Fault) {
	if len(text) > api.MaxText {
		return nil, faultAt(text, len(text), api.ELIMIT)
	}
	if at, ok := utf.Valid(text); !ok {
		return nil, faultAt(text, at, api.EUTF)
	}
	out := words{}
	for at := 0; at < len(text); {
		rest := text[at:]
		row := nameRow.FindString(rest)
		digits := numberRow.FindString(rest)
		switch {
		case blankRow.MatchString(rest):
			at += len(blankRow.FindString(rest))
		case oneMark.MatchString(rest):
			out = append(out, jlex.Word{Kind: mark, Text: rest[:1], At: at})
			at++
		case rest[0] == '"':
			said, n, e := strErr(rest)
			if e != api.OK {
				return nil, faultAt(text, at+n, e)
			}
			out = append(out, jlex.Word{Kind: str, Text: said, At: at})
			at += n
		case digits != "":
			if e := numberErr(digits); e != api.OK {
				return nil, faultAt(text, at, e)
			}
			out = append(out, jlex.Word{Kind: number, Text: digits, At: at})
			at += len(digits)
		case row == "true" || row == "false" || row == "null":
			out = append(out, jlex.Word{Kind: name, Text: row, At: at})
			at += len(row)
		default:
			return nil, faultAt(text, at, api.ESYNTAX)
		}
	}
	return append(out, jlex.Word{Kind: end, At: len(text)}), api.Fault{}
}

// checkText holds what Cut answers against what is worked out in another way.
func checkText(t *testing.T, text string) {
	t.Helper()
	want, wantFault := expected(text)
	got, fault := jlex.Cut(text)
	if fault != wantFault || !slices.Equal(got, want) {
		t.Fatalf("P7.1: Cut(%s): %.300s, %+v, want %.300s, %+v", short(text), fmt.Sprintf("%+v", got), fault, fmt.Sprintf("%+v", want), wantFault)
	}
}

// Each text of up to so many of the bytes that make a difference.
func TestEveryShortText(t *testing.T) {
	for _, c := range []struct {
		parts  []string
		length int
	}{
		{[]string{"-", "+", ".", "e", "E", "0", "1", "t"}, 6},
		{[]string{`"`, `\`, "u", "n", "\n", "0", "\xff", "\u20ac"}, 6},
		{[]string{`"`, `\ud83d`, `\ude00`, `\u0041`, "a", " "}, 6},
		{[]string{"true", "false", "null", "e", "1", "E", " ", ",", `"`}, 5},
		{[]string{"{", "}", "[", "]", ":", ",", " ", "\t", "\n", "\r", "1", `""`, "#"}, 4},
		{[]string{"1", "e", "-", ".", "00000", "100000", "100001", "99999999999999999999"}, 5},
		{[]string{"\xff", "\xe2", "\x82", "\xac", "\xef", "\xbf", "\xbd", `"`}, 5},
	} {
		level := []string{""}
		for range c.length + 1 {
			next := []string{}
			for _, s := range level {
				checkText(t, s)
				for _, part := range c.parts {
					next = append(next, s+part)
				}
			}
			level = next
		}
	}
}

// Each byte, and each two, in every place where it could make a difference.
func TestEveryByte(t *testing.T) {
	for b := range 256 {
		x := string([]byte{byte(b)})
		for _, s := range []string{x, " " + x, x + " ", x + x, "[" + x + "]", "1" + x, x + "1", "1" + x + "1", "1." + x, "1e" + x, "1e5" + x, "-" + x, "true" + x, x + "true", "tru" + x, "t" + x + "ue", `"` + x + `"`, `"` + x, `"a` + x + `b"`, `"\` + x + `"`, `"\u00` + x + `1"`, `"\ud83d` + x + `ude00"`, `""` + x, x + `""`, "#" + x, "\n" + x + "\n"} {
			checkText(t, s)
		}
		for other := range 256 {
			checkText(t, x+string([]byte{byte(other)}))
		}
	}
}

// Each letter, within a string and without.
func TestEveryLetter(t *testing.T) {
	for r := rune(128); r <= utf8.MaxRune; r++ {
		if !utf8.ValidRune(r) {
			continue
		}
		x := string(r)
		if got, fault := jlex.Cut(`"` + x + `"`); fault != (api.Fault{}) || len(got) != 2 || got[0] != (jlex.Word{Kind: str, Text: x}) || got[1] != (jlex.Word{At: len(x) + 2}) {
			t.Fatalf("P7.1: Cut of %q in a string: %+v, %+v", x, got, fault)
		}
		if got, fault := jlex.Cut("1" + x); len(got) != 0 || fault != (api.Fault{Err: api.ESYNTAX, At: 1, Line: 1, Col: 2}) {
			t.Fatalf("P7.1: Cut of %q behind a number: %+v, %+v", x, got, fault)
		}
	}
}

// Texts made at random of parts that make a difference.
func TestGrown(t *testing.T) {
	random := rand.New(rand.NewSource(7))
	parts := []string{"{", "}", "[", "]", ":", ",", " ", "\n", "\r\n", "\t", "0", "1", "-1", "1.5", "1e5", "-0.5E-07", "1e100000", "true", "false", "null", `"a"`, `""`, `"\n"`, `"\u0041"`, `"\ud83d\ude00"`, "\"\u20ac\""}
	spoilt := []string{"1e100001", "01", "+", ".", "e", "tru", `"`, `\`, `\q`, "#", "\x00", "\xff", "\u20ac", "\ufffd", `"\ud83d"`, "X"}
	for range 30000 {
		text := ""
		for range random.Intn(14) {
			if random.Intn(20) == 0 {
				text += spoilt[random.Intn(len(spoilt))]
			} else {
				text += parts[random.Intn(len(parts))]
			}
		}
		checkText(t, text)
	}
}

func FuzzText(f *testing.F) {
	for _, c := range right {
		f.Add(c.text)
	}
	for _, c := range wrong {
		f.Add(c.right + c.rest)
	}
	f.Fuzz(checkText)
}
