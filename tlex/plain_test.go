package tlex_test

import (
	"slices"
	"strings"
	"testing"

	"dragoman/api"
	"dragoman/tlex"
	"dragoman/value"
)

func strOf(s string) api.Value { return api.Value{Kind: api.Str, S: s} }

// stands tells that a value stands behind what is ahead, and where it goes on.
func stands(t *testing.T, ahead, text, behind string, want api.Value) {
	t.Helper()
	whole, at := ahead+text+behind, len(ahead)
	v, next, e, bad := tlex.Plain(whole, at)
	if !value.Same(v, want) || next != at+len(text) || e != api.OK || bad != 0 {
		t.Errorf("P10.4: Plain(%q, %d): %.100v, %d, %d, %d, want %.100v, %d, 0, 0", short(whole), at, v, next, e, bad, want, at+len(text))
	}
}

// standsNot tells that no value stands behind what is ahead: why, and behind what is right of it.
func standsNot(t *testing.T, ahead, right, rest string, want api.Errno) {
	t.Helper()
	whole, at := ahead+right+rest, len(ahead)
	v, next, e, bad := tlex.Plain(whole, at)
	if e != want || bad != at+len(right) {
		t.Errorf("P10.4: Plain(%q, %d): %.100v, %d, %d, %d, want the error %d at %d", short(whole), at, v, next, e, bad, want, at+len(right))
	}
	if e != api.OK && (!value.Same(v, api.Value{}) || next != 0) {
		t.Errorf("R2: Plain(%q, %d): %.100v, %d beside an error", short(whole), at, v, next)
	}
}

// plains are values as they stand in a text.
var plains = []struct {
	text string
	want api.Value
}{
	// The chapter's example.
	{"0x1F", intOf(31)},
	{"true", api.Value{Kind: api.Bool, N: 1}}, {"false", api.Value{Kind: api.Bool}},
	{"0", intOf(0)}, {"-0", intOf(0)}, {"+17", intOf(17)}, {"1_000", intOf(1000)}, {"0o755", intOf(493)}, {"0b11", intOf(3)}, {"0xdead_BEEF", intOf(0xDEADBEEF)}, {"-9223372036854775808", intOf(-1 << 63)},
	{"1.5", numOf("1.5")}, {"+1.5e3", numOf("1.5e3")}, {"6.6_26e-3_4", numOf("6.626e-34")}, {"1E+06", numOf("1E+06")},
	{"inf", stampOf("inf")}, {"-inf", stampOf("-inf")}, {"+nan", stampOf("+nan")},
}

// plainStrings are strings as they stand in a text.
var plainStrings = []struct{ text, said string }{
	{`""`, ""}, {`''`, ""}, {`"a"`, "a"}, {`'a'`, "a"}, {`"true"`, "true"}, {`'1'`, "1"}, {`"1979-05-27"`, "1979-05-27"}, {`"a b"`, "a b"}, {`"\n\"\\\u20ac\U0001F600"`, "\n\"\\\u20ac\U0001F600"}, {`'\n'`, `\n`}, {"\"\u20ac\"", "\u20ac"}, {"'\t'", "\t"}, {`"'"`, "'"}, {`'"'`, `"`},
	{`""""""`, ""}, {`''''''`, ""}, {`"""a"""`, "a"}, {`'''a'''`, "a"}, {"\"\"\"\na\nb\"\"\"", "a\nb"}, {"'''\r\na\r\nb\n'''", "a\r\nb\n"}, {"\"\"\"a\\\n  b\"\"\"", "ab"}, {`"""a"""""`, `a""`}, {`''''a'''`, `'a`}, {`'''"""'''`, `"""`},
}

// plainBehinds may stand behind any value, and are not looked at.
var plainBehinds = []string{"", " ", "  ", "\t", "\n", "\r\n", " \n", ",", ", 1", "]", "}", " ]", "#", " # a", "=", " = 1", " 1", " true", " 07:32:0", " x", "\x00", "\x7f", "\xff", "\u00e9", "\u20ac", "\u0661", "\u00a007:32:00", "/", ";", "[", "{", "(", "\\", "`", "@", "*", "&", "~", "^"}

func TestPlain(t *testing.T) {
	for _, ahead := range aheads {
		for _, c := range plains {
			for _, behind := range append(slices.Clip(plainBehinds), `"`, "'", `""`, "'''", " 07:32:00", "\n07:32:00") {
				stands(t, ahead, c.text, behind, c.want)
			}
		}
		for _, c := range plainStrings {
			for _, behind := range append(slices.Clip(plainBehinds), "a", "1", "_", "+", "-", ".", ":", "Z") {
				stands(t, ahead, c.text, behind, strOf(c.said))
			}
		}
		for _, s := range stamps {
			for _, behind := range plainBehinds {
				stands(t, ahead, s, behind, stampOf(s))
			}
		}
	}
	// Each text of a number is a value that stands there.
	for _, c := range numbers {
		stands(t, "a = ", c.text, "\n", c.want)
	}
}

// TestDayAndTime: a day goes on behind a blank, if what stands there makes a stamp with it.
func TestDayAndTime(t *testing.T) {
	const day = "1979-05-27"
	for _, time := range []string{"07:32:00", "23:59:60", "07:32:00.5", "07:32:00.123456789", "07:32:00Z", "07:32:00z", "07:32:00-07:00", "07:32:00.5+23:59"} {
		for _, behind := range append(slices.Clip(plainBehinds), " 07:32:00", " Z", " +07:00") {
			stands(t, "", day+" "+time, behind, stampOf(day+" "+time))
			stands(t, "x = ", day+"T"+time, behind, stampOf(day+"T"+time))
		}
		// Just one blank, and nothing else.
		for _, gap := range []string{"  ", "\t", " \t", "\t ", "\n", " \n", ",", "#", "\u00a0", "\"", "\x00"} {
			stands(t, "", day, gap+time, stampOf(day))
		}
	}
	// What is no time with it, also for its row's end.
	for _, behind := range []string{
		"x", "1", "07", "07:32", "07:32:0", "7:32:00", "24:00:00", "07:60:00", "07:32:61", "07:32:00.", "07:32:00.1234567890", "07:32:00ZZ", "07:32:00x", "07:32:00+", "07:32:00+24:00", "07:32:00+07:60", "07:32:00+0700", "07:32:00_", "07:32:00.5x", "07:32:00:", "07:32:00-07:00Z", "07:32:00T", "T07:32:00", "Z", "+07:00", "-07:00", day, day + "T07:32:00", "true", "\"07:32:00\"", "'07:32:00'", "#07:32:00", "=", "", "\n", "\xff",
	} {
		stands(t, "", day, " "+behind, stampOf(day))
		stands(t, "\u20ac", day, " "+behind, stampOf(day))
	}
	// Behind a day with a time, or a time alone, nothing more belongs to it.
	for _, behind := range []string{" 07:32:00", " 1979-05-27", " Z", " +07:00"} {
		stands(t, "", day+"T07:32:00", behind, stampOf(day+"T07:32:00"))
		stands(t, "", "07:32:00", behind, stampOf("07:32:00"))
		stands(t, "", day+" 07:32:00", behind, stampOf(day+" 07:32:00"))
	}
	// A day that there is not is none with a time either.
	for _, row := range []string{"1979-02-29", "1979-13-01", "1979-05-00", "79-05-27", "1979-5-27", "1979-05-271", "x1979-05-27", "1979-05-27T", "1979-05-27Z"} {
		standsNot(t, "", "", row+" 07:32:00", api.ESYNTAX)
	}
}

// TestRow: what stands there is the longest row, and all of it must be one.
func TestRow(t *testing.T) {
	for _, row := range noNumbers {
		if row == "" || strings.Trim(row, rowLetters) != "" || row == "true" || row == "false" || tlex.Stamp(row) {
			continue
		}
		for _, behind := range []string{"", " ", ",", "]", "\n", "\"", "\u20ac", "\xff", " 07:32:00"} {
			standsNot(t, "a = ", "", row+behind, api.ESYNTAX)
		}
	}
	for _, row := range noStamps {
		if strings.Trim(row, rowLetters) != "" || isNumber(row) || row == "true" {
			continue
		}
		standsNot(t, "a = ", "", row+"\n", api.ESYNTAX)
	}
	// One byte more of the row spoils a word; of a stamp and a number other than each other's bytes.
	for _, more := range strings.Split(rowLetters, "") {
		for _, row := range []string{"true" + more, "false" + more, more + "true", more + "false", "1979-05-27" + more, "07:32:00" + more, "inf" + more, "1.5" + more + ":", ":" + more, "1" + more + ":"} {
			standsNot(t, "", "", row, api.ESYNTAX)
			standsNot(t, "x ", "", row+" ", api.ESYNTAX)
		}
	}
	for _, row := range []string{"True", "TRUE", "False", "tru", "fals", "truefalse", "t", "yes", "null", "nil", "Inf", "NaN", "a", "Z", "_", "+", "-", ".", ":", "1a", "1:2", "1.2.3", "true.a", "true-", "true:", "1979-05-27T07:32", "1979-05-27_07:32:00", strings.Repeat("a", 70000)} {
		for _, behind := range []string{"", " ", ",", "\n", "#", " 1", " true", "\"", "'"} {
			standsNot(t, "", "", row+behind, api.ESYNTAX)
			standsNot(t, "[1, ", "", row+behind, api.ESYNTAX)
		}
	}
	for _, row := range []string{"9223372036854775808", "-9223372036854775809", "0x8000000000000000", "1e100001", "-2.5E-999999", "0." + strings.Repeat("1", 399), strings.Repeat("9", 1000)} {
		for _, behind := range []string{"", " ", ",", "\n", " 07:32:00"} {
			standsNot(t, "", "", row+behind, api.ERANGE)
			standsNot(t, "[1, ", "", row+behind, api.ERANGE)
		}
	}
}

// TestNothing: where neither a string nor a row begins, nothing stands.
func TestNothing(t *testing.T) {
	for _, rest := range []string{"", " ", " 1", "\t1", "\n", "\r\n1", ",", "]", "[", "[1]", "{", "}", "=", "#", "# 1", "/", "\\", "`a`", "(", "$1", "%", "&", "*", ";", "<", "!", "?", "@", "^", "|", "~", "\x00", "\x0b1", "\x1f", "\x7f", "\xff", "\xe2\x82", "\u00e9", "\u20ac", "\u0661", "\uff11", "\u22121", "\u201ca\u201d", "\ufeff1", "\u00a01", "\u221e"} {
		for _, ahead := range aheads {
			standsNot(t, ahead, "", rest, api.ESYNTAX)
		}
	}
}

// TestPlainAt: at a place that is not in the text, or at its end, nothing stands.
func TestPlainAt(t *testing.T) {
	for _, text := range []string{"", "1", "123", "true", `"a"`, "'", "1979-05-27", "\u20ac", " "} {
		for _, at := range below {
			if v, next, e, bad := tlex.Plain(text, at); !value.Same(v, api.Value{}) || next != 0 || e != api.ESYNTAX || bad != 0 {
				t.Errorf("P10.4: Plain(%q, %d): %+v, %d, %d, %d", text, at, v, next, e, bad)
			}
		}
		for _, at := range append(above, len(text), len(text)+1) {
			if v, next, e, bad := tlex.Plain(text, at); !value.Same(v, api.Value{}) || next != 0 || e != api.ESYNTAX || bad != len(text) {
				t.Errorf("P10.4: Plain(%q, %d): %+v, %d, %d, %d", text, at, v, next, e, bad)
			}
		}
	}
}

// wrongStrings are strings with a fault: what is right of it, and the rest from the fault on.
var wrongStrings = []struct{ right, rest string }{
	// Such as do not end.
	{`"`, ""}, {`'`, ""}, {`"a`, ""}, {`'a`, ""}, {`"a'`, ""}, {`'a"`, ""}, {`"\"`, ""}, {`"""`, ""}, {`'''`, ""}, {`"""a`, ""}, {`'''a`, ""}, {`"""a""`, ""}, {`'''a''`, ""}, {`"""a'''`, ""}, {"'''a\n", ""}, {"\"\"\"a\\\n ", ""}, {"'\u20ac", ""}, {`"1, 2]`, ""},
	// Such as end with their line, or have other bytes that may not be there.
	{`"a`, "\n\""}, {`'a`, "\n'"}, {`"a`, "\r\n\""}, {`'`, "\r'"}, {`"`, "\x00\""}, {`'`, "\x1f'"}, {`"`, "\x7f\""}, {`"""a`, "\r\"\"\""}, {`'''`, "\x7f'''"}, {`"""`, "\x00"}, {`"`, "\xff\""}, {`'a`, "\xe2\x82'"}, {"'''a\n", "\x80'''"},
	// Escapes that are none.
	{`"`, `\q"`}, {`"a`, `\/"`}, {`"`, `\u12"`}, {`"`, `\ud83d\ude00"`}, {`"`, `\U00110000"`}, {`"a`, `\`}, {`"""a`, `\ b"""`}, {`"""`, `\x41"""`}, {`"`, "\\\n\""},
}

func TestWrongString(t *testing.T) {
	for _, ahead := range aheads {
		for _, c := range wrongStrings {
			standsNot(t, ahead, c.right, c.rest, api.ESYNTAX)
		}
	}
}

// TestMostStr: what counts is the bytes that a string says, not those by which it is written.
func TestMostStr(t *testing.T) {
	for _, c := range []struct{ quote, written, said string }{
		{`"`, "x", "x"}, {"'", "x", "x"}, {`"""`, "x", "x"}, {"'''", "x", "x"}, {`"`, `\n`, "\n"}, {`"`, `\u0041`, "A"}, {"'", `\`, `\`}, {"'''", "a\n", "a\n"}, {`"""`, "x\\\n ", "x"}, {"'", "\u00e9", "\u00e9"}, {`"`, `\U0001F600`, "\U0001F600"},
	} {
		times := api.MaxStr / len(c.said)
		most, said := strings.Repeat(c.written, times), strings.Repeat(c.said, times)
		stands(t, "a = ", c.quote+most+c.quote, "\n", strOf(said))
		for _, more := range []string{"x", "-", "\u20ac"} {
			standsNot(t, "a = ", "", c.quote+most+more+c.quote, api.ELIMIT)
			standsNot(t, "", "", c.quote+more+most+c.quote+" #", api.ELIMIT)
			// A string that is wrong is told as that, however long it is.
			standsNot(t, "a = ", c.quote+most+more, "", api.ESYNTAX)
			standsNot(t, "a = ", c.quote+most+more, "\x00"+c.quote, api.ESYNTAX)
		}
	}
}
