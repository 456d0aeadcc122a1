package jread_test

import (
	"encoding/json"
	"fmt"
	"math"
	"math/rand"
	"slices"
	"sort"
	"strings"
	"testing"
	"unicode/utf8"
	"unsafe"

	"dragoman/api"
	"dragoman/jlex"
	"dragoman/jread"
	"dragoman/value"
)

// The kinds of jlex's words.
const (
	end  = 0
	mark = 1
	str  = 2
)

var (
	null  = api.Value{}
	yes   = api.Value{Kind: api.Bool, N: 1}
	no    = api.Value{Kind: api.Bool}
	empty = api.Value{Kind: api.List}
	bare  = api.Value{Kind: api.Map}
)

func whole(n int64) api.Value { return api.Value{Kind: api.Int, N: n} }

func num(s string) api.Value { return api.Value{Kind: api.Num, S: s} }

func said(s string) api.Value { return api.Value{Kind: api.Str, S: s} }

func list(l ...api.Value) api.Value { return api.Value{Kind: api.List, L: l} }

func pair(key string, v api.Value) api.Pair { return api.Pair{Key: key, V: v} }

func pairs(m ...api.Pair) api.Value { return api.Value{Kind: api.Map, M: m} }

// short tells a head, so that what is long can be told.
func short(s string) string {
	if len(s) <= 80 {
		return fmt.Sprintf("%q", s)
	}
	return fmt.Sprintf("%q and so on, %d bytes", s[:80], len(s))
}

// faultAt is a fault with its line and column.
func faultAt(text string, at int, e api.Errno) api.Fault {
	line := text[strings.LastIndexByte(text[:at], 10)+1 : at]
	return api.Fault{Err: e, At: at, Line: strings.Count(text[:at], "\n") + 1, Col: utf8.RuneCountInString(line) + 1}
}

// says tells that a text is just this value.
func says(t *testing.T, text string, want api.Value) {
	t.Helper()
	got, fault := jread.Parse(text)
	if fault != (api.Fault{}) || !value.Same(got, want) {
		t.Errorf("P8.1: Parse(%s): %.300s, %+v, want %.300s", short(text), fmt.Sprintf("%+v", got), fault, fmt.Sprintf("%+v", want))
	}
	if !value.Good(got) {
		t.Errorf("P8.1: Parse(%s): no Good value: %.300s", short(text), fmt.Sprintf("%+v", got))
	}
	if !jread.Valid(text) {
		t.Errorf("P8.1: Valid(%s): false of a text without a fault", short(text))
	}
}

// refuses tells that a text has just this fault, and no value.
func refuses(t *testing.T, text string, at int, e api.Errno) {
	t.Helper()
	got, fault := jread.Parse(text)
	if want := faultAt(text, at, e); fault != want {
		t.Errorf("P8.1: Parse(%s): %.100s, %+v, want %+v", short(text), fmt.Sprintf("%+v", got), fault, want)
	}
	if !value.Same(got, null) {
		t.Errorf("P8.1: Parse(%s): %.300s beside the fault %+v", short(text), fmt.Sprintf("%+v", got), fault)
	}
	if jread.Valid(text) {
		t.Errorf("P8.1: Valid(%s): true of a text with a fault", short(text))
	}
}

// right are texts with their values.
var right = []struct {
	text string
	want api.Value
}{
	// The chapter's example.
	{`{"b":1,"a":[]}`, pairs(pair("a", empty), pair("b", whole(1)))},
	// Each kind.
	{"null", null}, {"true", yes}, {"false", no}, {`""`, said("")}, {`"a"`, said("a")}, {`"null"`, said("null")}, {`"1"`, said("1")}, {`"["`, said("[")}, {`"{"`, said("{")}, {`","`, said(",")}, {`"]"`, said("]")}, {`"}"`, said("}")}, {`":"`, said(":")},
	{`"\"\\\/\b\f\n\r\t\u0041\u20ac\ud83d\ude00"`, said("\"\\/\b\f\n\r\tA\u20ac\U0001F600")}, {"\"\u20ac\ufffd\"", said("\u20ac\ufffd")}, {`"\u0000"`, said("\x00")}, {`"2026-11-17"`, said("2026-11-17")},
	// Numbers that are ints.
	{"0", whole(0)}, {"5", whole(5)}, {"-5", whole(-5)}, {"10", whole(10)}, {"9223372036854775807", whole(math.MaxInt64)}, {"-9223372036854775808", whole(math.MinInt64)}, {"9223372036854775806", whole(math.MaxInt64 - 1)}, {"-9223372036854775807", whole(math.MinInt64 + 1)},
	// Numbers that are nums, as they stand.
	{"-0", num("-0")}, {"1.0", num("1.0")}, {"0.0", num("0.0")}, {"-0.0", num("-0.0")}, {"1e2", num("1e2")}, {"1E2", num("1E2")}, {"1e0", num("1e0")}, {"0e0", num("0e0")}, {"1e+02", num("1e+02")}, {"-12.50e-07", num("-12.50e-07")}, {"1.50", num("1.50")}, {"1e100000", num("1e100000")}, {"1e-100000", num("1e-100000")},
	{"9223372036854775808", num("9223372036854775808")}, {"-9223372036854775809", num("-9223372036854775809")}, {"18446744073709551615", num("18446744073709551615")}, {"18446744073709551616", num("18446744073709551616")}, {"9223372036854775807.0", num("9223372036854775807.0")}, {strings.Repeat("9", api.MaxDigits), num(strings.Repeat("9", api.MaxDigits))},
	// Lists, empty and nested.
	{"[]", empty}, {"[[]]", list(empty)}, {"[[],[]]", list(empty, empty)}, {"[{}]", list(bare)}, {"[1]", list(whole(1))}, {"[2,1]", list(whole(2), whole(1))}, {"[1,1]", list(whole(1), whole(1))}, {"[null]", list(null)}, {"[null,null]", list(null, null)}, {"[[1],[2,[3]],[]]", list(list(whole(1)), list(whole(2), list(whole(3))), empty)},
	{`[null,true,false,0,-0,"",[],{}]`, list(null, yes, no, whole(0), num("-0"), said(""), empty, bare)}, {`["]",["[","}"]]`, list(said("]"), list(said("["), said("}")))},
	// Maps, empty and nested.
	{"{}", bare}, {`{"a":{}}`, pairs(pair("a", bare))}, {`{"":""}`, pairs(pair("", said("")))}, {`{"a":null}`, pairs(pair("a", null))}, {`{"a":1,"b":2}`, pairs(pair("a", whole(1)), pair("b", whole(2)))}, {`{"b":1,"a":2}`, pairs(pair("a", whole(2)), pair("b", whole(1)))}, {`{"a":{"b":{"c":[{}]}}}`, pairs(pair("a", pairs(pair("b", pairs(pair("c", list(bare)))))))},
	{`{"{":"}",":":",",",":"[","]":"]"}`, pairs(pair(",", said("[")), pair(":", said(",")), pair("]", said("]")), pair("{", said("}")))}, {`{"1":1,"true":true,"null":null}`, pairs(pair("1", whole(1)), pair("null", null), pair("true", yes))},
	// Keys by their bytes: a beginning first, great letters ahead of small ones, and by what they say.
	{`{"b":1,"":2,"aa":3,"B":4,"a":5}`, pairs(pair("", whole(2)), pair("B", whole(4)), pair("a", whole(5)), pair("aa", whole(3)), pair("b", whole(1)))}, {`{"10":1,"9":2}`, pairs(pair("10", whole(1)), pair("9", whole(2)))}, {"{\"\U0001F600\":1,\"\uffff\":2,\"\u00e9\":3,\"z\":4}", pairs(pair("z", whole(4)), pair("\u00e9", whole(3)), pair("\uffff", whole(2)), pair("\U0001F600", whole(1)))}, {`{"b":1,"\u0061":2}`, pairs(pair("a", whole(2)), pair("b", whole(1)))}, {`{"a":1,"A":2}`, pairs(pair("A", whole(2)), pair("a", whole(1)))},
	// Letters that look alike are keys of their own.
	{`{"\u00e9":1,"e\u0301":2}`, pairs(pair("e\u0301", whole(2)), pair("\u00e9", whole(1)))}, {`{"a":1,"a ":2," a":3}`, pairs(pair(" a", whole(3)), pair("a", whole(1)), pair("a ", whole(2)))}, {`{"a":1,"a\u0000":2}`, pairs(pair("a", whole(1)), pair("a\x00", whole(2)))},
	// The same key in two maps: beside, within, and around.
	{`[{"a":1},{"a":2}]`, list(pairs(pair("a", whole(1))), pairs(pair("a", whole(2))))}, {`{"a":{"a":{"a":1}}}`, pairs(pair("a", pairs(pair("a", pairs(pair("a", whole(1)))))))}, {`{"a":{"b":1},"b":{"a":2}}`, pairs(pair("a", pairs(pair("b", whole(1)))), pair("b", pairs(pair("a", whole(2)))))}, {`{"a":[{"a":1},{"a":1}],"b":{"a":1,"b":2}}`, pairs(pair("a", list(pairs(pair("a", whole(1))), pairs(pair("a", whole(1))))), pair("b", pairs(pair("a", whole(1)), pair("b", whole(2)))))},
	// The same text as a key and as a value.
	{`{"a":"a","b":"a"}`, pairs(pair("a", said("a")), pair("b", said("a")))}, {`["a","a"]`, list(said("a"), said("a"))},
	// Blanks, and none where none is needed.
	{" \t\r\nnull\n", null}, {"[ ]", empty}, {"{\n}", bare}, {"[true,false]", list(yes, no)}, {"\n{ \"a\" :\t[ 1 , 2\r\n] }\n\n", pairs(pair("a", list(whole(1), whole(2))))},
}

func TestValues(t *testing.T) {
	for _, c := range right {
		says(t, c.text, c.want)
		says(t, "["+c.text+"]", list(c.want))
		says(t, "["+c.text+","+c.text+"]", list(c.want, c.want))
		says(t, `{"k":`+c.text+`}`, pairs(pair("k", c.want)))
	}
}

// written are a text's words as they stand there, without the blanks between.
func written(text string) []string {
	words, _ := jlex.Cut(text)
	out := []string{}
	for i := range words[1:] {
		out = append(out, strings.Trim(text[words[i].At:words[i+1].At], " \t\r\n"))
	}
	return out
}

// TestBlanks: blanks stand anywhere between words, and alter nothing.
func TestBlanks(t *testing.T) {
	random := rand.New(rand.NewSource(8))
	gaps := []string{"", " ", "\t", "\n", "\r", "\r\n", " \t\n\r  "}
	for _, c := range right {
		words := written(c.text)
		for _, gap := range gaps {
			says(t, gap+strings.Join(words, gap)+gap, c.want)
		}
		text := gaps[random.Intn(len(gaps))]
		for _, word := range words {
			text += word + gaps[random.Intn(len(gaps))]
		}
		says(t, text, c.want)
	}
}

// orders are all orders of some texts.
func orders(parts []string) [][]string {
	if len(parts) == 0 {
		return [][]string{nil}
	}
	out := [][]string{}
	for i := range parts {
		for _, rest := range orders(slices.Delete(slices.Clone(parts), i, i+1)) {
			out = append(out, append([]string{parts[i]}, rest...))
		}
	}
	return out
}

// TestOrders: a map's pairs may stand in any order; a list's values may not.
func TestOrders(t *testing.T) {
	want := pairs(pair("", null), pair("B", list(whole(2), whole(1))), pair("a", whole(1)), pair("aa", said("x")), pair("b", pairs(pair("x", yes), pair("y", no))))
	for _, order := range orders([]string{`"":null`, `"B":[2,1]`, `"a":1`, `"aa":"x"`, `"b":{"y":false,"x":true}`}) {
		says(t, "{"+strings.Join(order, ",")+"}", want)
	}
	for _, order := range orders([]string{"1", "2", "3"}) {
		l := []api.Value{}
		for _, digit := range order {
			l = append(l, whole(int64(digit[0]-'0')))
		}
		says(t, "["+strings.Join(order, ",")+"]", list(l...))
	}
}

// wrong are texts that have a fault just behind what is right of them.
var wrong = []struct {
	right, rest string
	err         api.Errno
}{
	// The chapter's example.
	{"[1,", "]", api.ESYNTAX},
	// No value at all.
	{"", "", api.ESYNTAX}, {" ", "", api.ESYNTAX}, {"\n", "", api.ESYNTAX}, {" \t\r\n ", "", api.ESYNTAX},
	// A mark that begins no value.
	{"", "]", api.ESYNTAX}, {"", "}", api.ESYNTAX}, {"", ":", api.ESYNTAX}, {"", ",", api.ESYNTAX}, {" ", ",1", api.ESYNTAX}, {"", "]1", api.ESYNTAX}, {"", ":1", api.ESYNTAX}, {"", "}{", api.ESYNTAX},
	// Something behind the value.
	{"1 ", "2", api.ESYNTAX}, {"1", "true", api.ESYNTAX}, {"1", ",", api.ESYNTAX}, {"1", "]", api.ESYNTAX}, {"1", "}", api.ESYNTAX}, {"1", ":", api.ESYNTAX}, {"1", "[]", api.ESYNTAX}, {"1", "{}", api.ESYNTAX}, {"null ", "null", api.ESYNTAX}, {"true", ",", api.ESYNTAX}, {`"a"`, `"b"`, api.ESYNTAX}, {`"a"`, ":1", api.ESYNTAX},
	{"[]", "]", api.ESYNTAX}, {"[]", "[]", api.ESYNTAX}, {"[]", "1", api.ESYNTAX}, {"[]", ",", api.ESYNTAX}, {"[]", "}", api.ESYNTAX}, {"{}", "}", api.ESYNTAX}, {"{}", "{}", api.ESYNTAX}, {"{}", "1", api.ESYNTAX}, {"{}", ",", api.ESYNTAX}, {"{}", "]", api.ESYNTAX}, {"[1]\n", "[2]", api.ESYNTAX}, {"{\"a\":1}\n", "{\"a\":1}", api.ESYNTAX},
	// Lists without form.
	{"[", "", api.ESYNTAX}, {"[ ", "", api.ESYNTAX}, {"[1", "", api.ESYNTAX}, {"[1,", "", api.ESYNTAX}, {"[1,2", "", api.ESYNTAX}, {"[[", "", api.ESYNTAX}, {"[[]", "", api.ESYNTAX}, {"[[1]", "", api.ESYNTAX}, {"[[],", "", api.ESYNTAX}, {"[{}", "", api.ESYNTAX}, {"[{", "", api.ESYNTAX},
	{"[", ",1]", api.ESYNTAX}, {"[", ",]", api.ESYNTAX}, {"[", ",", api.ESYNTAX}, {"[1,", ",2]", api.ESYNTAX}, {"[1 ", "2]", api.ESYNTAX}, {"[1", ":2]", api.ESYNTAX}, {"[", ":]", api.ESYNTAX}, {"[1", "[2]]", api.ESYNTAX}, {"[1", "{}]", api.ESYNTAX}, {"[[]", "[]]", api.ESYNTAX}, {"[\"a\"", ":1]", api.ESYNTAX}, {"[1,[2,", "]]", api.ESYNTAX}, {"[1,[2]", "3]", api.ESYNTAX}, {"[1, 2 ,\n ", "]", api.ESYNTAX}, {"[{},", "]", api.ESYNTAX}, {"[[],", "]", api.ESYNTAX},
	// Maps without form.
	{"{", "", api.ESYNTAX}, {`{"a"`, "", api.ESYNTAX}, {`{"a":`, "", api.ESYNTAX}, {`{"a":1`, "", api.ESYNTAX}, {`{"a":1,`, "", api.ESYNTAX}, {`{"a":1,"b"`, "", api.ESYNTAX}, {`{"a":{`, "", api.ESYNTAX}, {`{"a":{}`, "", api.ESYNTAX}, {`{"a":[]`, "", api.ESYNTAX}, {`{"a":[`, "", api.ESYNTAX},
	{`{"a"`, "}", api.ESYNTAX}, {`{"a":`, "}", api.ESYNTAX}, {`{"a":1,`, "}", api.ESYNTAX}, {`{"a" `, "1}", api.ESYNTAX}, {"{", "1:2}", api.ESYNTAX}, {"{", ",}", api.ESYNTAX}, {"{", `,"a":1}`, api.ESYNTAX}, {"{", ":1}", api.ESYNTAX}, {"{", "true:1}", api.ESYNTAX}, {"{", "null:1}", api.ESYNTAX}, {"{", "[]:1}", api.ESYNTAX}, {"{", "{}:1}", api.ESYNTAX}, {"{", "1}", api.ESYNTAX}, {"{", "[1]}", api.ESYNTAX},
	{`{"a"`, `,"b"}`, api.ESYNTAX}, {`{"a":`, ":1}", api.ESYNTAX}, {`{"a":`, ",}", api.ESYNTAX}, {`{"a":`, `,"b":1}`, api.ESYNTAX}, {`{"a":1`, ":2}", api.ESYNTAX}, {`{"a":1 `, `"b":2}`, api.ESYNTAX}, {`{"a":1 `, "2}", api.ESYNTAX}, {`{"a":1,`, ",}", api.ESYNTAX}, {`{"a":1,`, "2:3}", api.ESYNTAX}, {`{"a":1,`, "null}", api.ESYNTAX}, {`{"a":{"b":1,`, "}}", api.ESYNTAX}, {`{"a" `, `"b":1}`, api.ESYNTAX}, {`{"a"`, "[1]}", api.ESYNTAX}, {`{"a":1`, "{}}", api.ESYNTAX}, {`{"a":"b"`, `:"c"}`, api.ESYNTAX},
	// A bracket that shuts another.
	{"[", "}", api.ESYNTAX}, {"{", "]", api.ESYNTAX}, {"[1", "}", api.ESYNTAX}, {"[1,", "}", api.ESYNTAX}, {`{"a":1`, "]", api.ESYNTAX}, {`{"a"`, "]", api.ESYNTAX}, {`{"a":`, "]", api.ESYNTAX}, {`{"a":1,`, "]", api.ESYNTAX}, {"[{", "]}", api.ESYNTAX}, {`{"a":[`, "}]", api.ESYNTAX}, {"[[", "}]", api.ESYNTAX}, {`[{"a":1`, "]}", api.ESYNTAX}, {`{"a":[1`, "}]", api.ESYNTAX},
	// A key that its map has: by what it says, ahead of all that stands behind it.
	{`{"a":1,`, `"a":2}`, api.ETWICE}, {`{"a":1,`, `"a":1}`, api.ETWICE}, {`{"a":1,"b":2,`, `"a":3}`, api.ETWICE}, {`{"a":1,"b":2,`, `"b":3}`, api.ETWICE}, {`{"":1,`, `"":2}`, api.ETWICE}, {`{"a":1,`, `"\u0061":2}`, api.ETWICE}, {`{"\u0061":1,`, `"a":2}`, api.ETWICE}, {`{"\u20ac":1,`, "\"\u20ac\":2}", api.ETWICE}, {`{"\/":1,`, `"/":2}`, api.ETWICE}, {"{\"\\ud83d\\ude00\":1,\n ", "\"\U0001F600\":2}", api.ETWICE},
	{`{"a":1,`, `"a" 3}`, api.ETWICE}, {`{"a":1,`, `"a"}`, api.ETWICE}, {`{"a":1,`, `"a"`, api.ETWICE}, {`{"a":1,`, `"a",`, api.ETWICE}, {`{"a":1,`, `"a"]`, api.ETWICE}, {`{"a":1,`, `"a":}`, api.ETWICE}, {`{"a":1,`, `"a":2,}`, api.ETWICE}, {`{"a":1,`, `"a"::`, api.ETWICE},
	{`[{"a":1},{"b":1,`, `"b":2}]`, api.ETWICE}, {`{"a":{"b":1,`, `"b":2}}`, api.ETWICE}, {`{"a":{"a":1},`, `"a":2}`, api.ETWICE}, {`{"a":{"b":1},`, `"a":2}`, api.ETWICE}, {`{"a":[{"a":1}],"b":0,`, `"b":2}`, api.ETWICE}, {`{"a":{},`, `"a":{}}`, api.ETWICE}, {`{"a":null,`, `"a":null}`, api.ETWICE},
	// Of two faults the first.
	{"[", ",1", api.ESYNTAX}, {"[1,", "] 2", api.ESYNTAX}, {`{"a":1,`, `"a":2,"a" 3`, api.ETWICE}, {`{"a" `, `1,"a":2}`, api.ESYNTAX}, {`[1 `, `{"a":1,"a":2}]`, api.ESYNTAX}, {`[{"a":1,`, `"a":2} 3]`, api.ETWICE}, {"[1 ", "2", api.ESYNTAX}, {`{"a":1,"b":2,`, `"b":3,"a":4}`, api.ETWICE}, {`{"a":`, `,"a":1}`, api.ESYNTAX},
}

// aheads stand ahead of a wrong text, and are right.
var aheads = []string{"", "\n", " \r\n\t", "[", "[1,\n", "[\"\u20ac\", ", `{"k":`, "{\"\u00e9\":\n \"\U0001F600\", \"k\" : [{}, "}

func TestFaults(t *testing.T) {
	for _, c := range wrong {
		for _, ahead := range aheads {
			// Behind a value a , or a shut bracket is wrong only if nothing is around it.
			if around(ahead, c.right) {
				continue
			}
			refuses(t, ahead+c.right+c.rest, len(ahead)+len(c.right), c.err)
		}
	}
	// Places with their lines and columns written out.
	for text, want := range map[string]api.Fault{
		"[1,]":                         {Err: api.ESYNTAX, At: 3, Line: 1, Col: 4},
		"":                             {Err: api.ESYNTAX, At: 0, Line: 1, Col: 1},
		" \n ":                         {Err: api.ESYNTAX, At: 3, Line: 2, Col: 2},
		"[\"\u20ac\u20ac\" 1]":         {Err: api.ESYNTAX, At: 10, Line: 1, Col: 7},
		"{\"a\":1,\r\n  \"a\":2}":      {Err: api.ETWICE, At: 11, Line: 2, Col: 3},
		"[1,\n2\n":                     {Err: api.ESYNTAX, At: 6, Line: 3, Col: 1},
		"[\n\"\u20ac\", 1e100001]":     {Err: api.ERANGE, At: 9, Line: 2, Col: 6},
		"\n" + strings.Repeat("[", 33): {Err: api.ELIMIT, At: 33, Line: 2, Col: 33},
	} {
		if got, fault := jread.Parse(text); fault != want || !value.Same(got, null) {
			t.Errorf("P8.1: Parse(%q): %+v, %+v, want %+v", text, got, fault, want)
		}
	}
}

// around tells whether a wrong text's right part is a whole value, or none at all, that stands
// within something, so that other words fit behind it.
func around(ahead, right string) bool {
	return strings.Trim(ahead, " \t\r\n") != "" && (jread.Valid(right) || strings.Trim(right, " \t\r\n") == "")
}

// TestWordFaults: jlex's faults, which are told ahead of all others, wherever they stand.
func TestWordFaults(t *testing.T) {
	for _, c := range []struct {
		right, rest string
		err         api.Errno
	}{
		{"", "#", api.ESYNTAX}, {"", "tru", api.ESYNTAX}, {"", "01", api.ESYNTAX}, {"", "+1", api.ESYNTAX}, {"", "1.", api.ESYNTAX}, {"", "NaN", api.ESYNTAX}, {"", "'a'", api.ESYNTAX}, {`"a`, "", api.ESYNTAX}, {`"a`, "\n\"", api.ESYNTAX}, {`"a`, `\q"`, api.ESYNTAX}, {`"`, `\ud83d"`, api.ESYNTAX}, {"", "\ufeff", api.ESYNTAX}, {"", "// x", api.ESYNTAX},
		{"", "\xff", api.EUTF}, {"\"", "\xff\"", api.EUTF}, {"", "\xc0\x80", api.EUTF}, {"# ", "\xff", api.EUTF},
		{"", "1e100001", api.ERANGE}, {"", "-1.5E-100001", api.ERANGE}, {"", strings.Repeat("9", api.MaxDigits+1), api.ELIMIT}, {"", `"` + strings.Repeat("x", api.MaxStr+1) + `"`, api.ELIMIT},
	} {
		for _, ahead := range []string{"", "\n ", "[", "[1,\n", `{"a":`, "{", "[1,] ", "] ", "1 2 ", `{"a":1,"a":2} `, `{"a" 1} `, "{1:2}", strings.Repeat("[", 40), strings.Repeat("1,", 5000)} {
			refuses(t, ahead+c.right+c.rest, len(ahead)+len(c.right), c.err)
			if strings.HasSuffix(c.rest, `"`) {
				refuses(t, ahead+c.right+c.rest+" ]", len(ahead)+len(c.right), c.err)
			}
		}
	}
	for _, head := range []string{"", "[1]", "#", "\xff", "[1,]", "1 2", strings.Repeat("[", 40)} {
		refuses(t, filled(head, api.MaxText+1), api.MaxText+1, api.ELIMIT)
	}
	says(t, filled("[1]", api.MaxText), list(whole(1)))
	refuses(t, filled("[1,]", api.MaxText), 3, api.ESYNTAX)
	refuses(t, filled("", api.MaxText), api.MaxText, api.ESYNTAX)
	// At jlex's limits all is well, of a key too.
	long := strings.Repeat("x", api.MaxStr)
	says(t, `{"`+long+`":"`+long+`"}`, pairs(pair(long, said(long))))
	refuses(t, `{"`+long+`x":1}`, 1, api.ELIMIT)
	refuses(t, `{"`+long+`":1,"`+long+`":2}`, len(long)+6, api.ETWICE)
}

// filled is a text of just so many bytes: some, then blanks.
func filled(text string, size int) string { return text + strings.Repeat(" ", size-len(text)) }

// nest is a way to put a value into another, with the bytes that stand ahead of it and behind.
type nest struct {
	open, shut string
	around     func(api.Value) api.Value
}

var nests = []nest{
	{"[", "]", func(v api.Value) api.Value { return list(v) }},
	{`{"k":`, "}", func(v api.Value) api.Value { return pairs(pair("k", v)) }},
	// Others stand behind alone: ahead of a value that is too deep they would be so first.
	{"[", ",1]", func(v api.Value) api.Value { return list(v, whole(1)) }},
	{`{"k":`, `,"a":[],"z":0}`, func(v api.Value) api.Value { return pairs(pair("a", empty), pair("k", v), pair("z", whole(0))) }},
}

// TestMostDepth: just MaxDepth deep and one more, by lists, by maps, and by both in turn.
func TestMostDepth(t *testing.T) {
	insides := []struct {
		text string
		v    api.Value
	}{{"[]", empty}, {"{}", bare}, {"1", whole(1)}, {"-0.5", num("-0.5")}, {`"a"`, said("a")}, {"null", null}, {"true", yes}, {"false", no}}
	for first := range nests {
		for second := range nests {
			open, shut := "", ""
			build := func(v api.Value) api.Value { return v }
			for depth := 1; depth <= api.MaxDepth+1; depth++ {
				for _, in := range insides {
					if depth <= api.MaxDepth {
						says(t, open+in.text+shut, build(in.v))
					} else {
						refuses(t, open+in.text+shut, len(open), api.ELIMIT)
						refuses(t, open+in.text, len(open), api.ELIMIT)
						refuses(t, open+in.text+",]}"+shut, len(open), api.ELIMIT)
						refuses(t, open+in.text+" "+in.text+shut, len(open), api.ELIMIT)
					}
				}
				// What begins no value is no value too deep.
				for _, bad := range []string{":", ",", ""} {
					refuses(t, open+bad, len(open), api.ESYNTAX)
				}
				n, inner := nests[first], build
				if depth%2 == 0 {
					n = nests[second]
				}
				open, shut = open+n.open, n.shut+shut
				build = func(v api.Value) api.Value { return inner(n.around(v)) }
			}
		}
	}
}

// TestDeep: what stands at the limit beside the value that is one too deep.
func TestDeep(t *testing.T) {
	open := strings.Repeat("[", api.MaxDepth-1)
	shut := strings.Repeat("]", api.MaxDepth-1)
	for _, n := range []int{api.MaxDepth + 1, api.MaxDepth + 2, 40, 9000, api.MaxText / 2} {
		refuses(t, strings.Repeat("[", n)+strings.Repeat("]", n), api.MaxDepth, api.ELIMIT)
	}
	refuses(t, strings.Repeat(`{"k":`, 9000), 5*api.MaxDepth, api.ELIMIT)
	// The deepest list may be beside others, and hold nothing.
	refuses(t, open+"[],[1]"+shut, len(open)+4, api.ELIMIT)
	refuses(t, open+`{},{"a":1}`+shut, len(open)+8, api.ELIMIT)
	// A map's key is no value: its own faults come first.
	refuses(t, open+`{"a"}`+shut, len(open)+4, api.ESYNTAX)
	refuses(t, open+`{1:1}`+shut, len(open)+1, api.ESYNTAX)
	refuses(t, open+`{"a":}`+shut, len(open)+5, api.ESYNTAX)
	refuses(t, open+`[}`+shut, len(open)+1, api.ESYNTAX)
	refuses(t, open+`[,`+shut, len(open)+1, api.ESYNTAX)
	// Deep lists one behind the other do not add up.
	deep := open[1:] + "1" + shut[1:]
	says(t, "["+deep+","+deep+"]", list(nested(api.MaxDepth-1), nested(api.MaxDepth-1)))
	refuses(t, "["+deep+",["+deep+"]]", len("["+deep+",["+open[1:]), api.ELIMIT)
}

// nested is 1 in so many lists that all is so deep.
func nested(depth int) api.Value {
	v := whole(1)
	for range depth - 1 {
		v = list(v)
	}
	return v
}

// TestMostNodes: just MaxNodes nodes and one more, by lists, by maps, and by lists of them.
func TestMostNodes(t *testing.T) {
	insides := []struct {
		text string
		v    api.Value
	}{{"1", whole(1)}, {"[]", empty}, {"{}", bare}, {`""`, said("")}, {"null", null}, {"true", yes}}
	for _, in := range insides {
		row := strings.Repeat(in.text+",", api.MaxNodes-2)
		l := slices.Repeat([]api.Value{in.v}, api.MaxNodes-1)
		says(t, "["+row+in.text+"]", list(l...))
		for _, more := range insides {
			refuses(t, "["+row+in.text+","+more.text+"]", len("["+row+in.text+","), api.ELIMIT)
			refuses(t, "["+row+in.text+","+more.text, len("["+row+in.text+","), api.ELIMIT)
			refuses(t, "["+row+in.text+","+more.text+" 1", len("["+row+in.text+","), api.ELIMIT)
			// At the limit what begins no value is none too many, and so is what stands behind a value.
			refuses(t, "["+row+in.text+",]"+more.text, len("["+row+in.text+","), api.ESYNTAX)
			refuses(t, "["+row+in.text+" "+more.text+"]", len("["+row+in.text+" "), api.ESYNTAX)
			refuses(t, "["+row+in.text+"]"+more.text, len("["+row+in.text+"]"), api.ESYNTAX)
		}
	}
	// A list in a list is a node too, wherever it stands.
	ones := strings.Repeat(",1", api.MaxNodes-4)
	says(t, "[[]"+ones+",[]]", list(append(append([]api.Value{empty}, slices.Repeat([]api.Value{whole(1)}, api.MaxNodes-4)...), empty)...))
	refuses(t, "[[]"+ones+",[1,2]]", len("[[]"+ones+",[1,"), api.ELIMIT)
	says(t, "[[]"+ones+",[1]]", list(append(append([]api.Value{empty}, slices.Repeat([]api.Value{whole(1)}, api.MaxNodes-4)...), list(whole(1)))...))
	refuses(t, "[[]"+ones+",[1],1]", len("[[]"+ones+",[1],"), api.ELIMIT)
	refuses(t, "[[]"+ones+`,{"a":1,"b":2}]`, len("[[]"+ones+`,{"a":1,"b":`), api.ELIMIT)
}

// TestMostPairs: a map's keys are no nodes, its values are.
func TestMostPairs(t *testing.T) {
	for _, down := range []bool{false, true} {
		keys := []string{}
		want := bare
		for i := range api.MaxNodes - 1 {
			keys = append(keys, fmt.Sprintf(`"%04d":%d`, i, i))
			want.M = append(want.M, pair(fmt.Sprintf("%04d", i), whole(int64(i))))
		}
		if down {
			slices.Reverse(keys)
		}
		row := "{" + strings.Join(keys, ",")
		says(t, row+"}", want)
		refuses(t, row+`,"x":1}`, len(row)+5, api.ELIMIT)
		refuses(t, row+`,"x":[]}`, len(row)+5, api.ELIMIT)
		// The key, the : and what begins no value stand ahead of that.
		refuses(t, row+`,"0007":1}`, len(row)+1, api.ETWICE)
		refuses(t, row+`,"x" 1}`, len(row)+5, api.ESYNTAX)
		refuses(t, row+`,"x":}`, len(row)+5, api.ESYNTAX)
		refuses(t, row+`,1}`, len(row)+1, api.ESYNTAX)
		refuses(t, row+`,}`, len(row)+1, api.ESYNTAX)
		refuses(t, row, len(row), api.ESYNTAX)
	}
}

// allLists tells, of each list within a value, where its memory begins and ends, spare room with it.
func allLists(v api.Value) [][2]uintptr {
	out := [][2]uintptr{}
	if cap(v.L) > 0 {
		from := uintptr(unsafe.Pointer(unsafe.SliceData(v.L)))
		out = append(out, [2]uintptr{from, from + uintptr(cap(v.L))*unsafe.Sizeof(api.Value{})})
	}
	if cap(v.M) > 0 {
		from := uintptr(unsafe.Pointer(unsafe.SliceData(v.M)))
		out = append(out, [2]uintptr{from, from + uintptr(cap(v.M))*unsafe.Sizeof(api.Pair{})})
	}
	for _, part := range v.L {
		out = append(out, allLists(part)...)
	}
	for _, p := range v.M {
		out = append(out, allLists(p.V)...)
	}
	return out
}

// allTexts are the texts within a value.
func allTexts(v api.Value) []string {
	out := []string{v.S}
	for _, part := range v.L {
		out = append(out, allTexts(part)...)
	}
	for _, p := range v.M {
		out = append(append(out, p.Key), allTexts(p.V)...)
	}
	return out
}

// TestNewMemory: R4, no two lists of one answer or of two share memory, and none keeps the text.
func TestNewMemory(t *testing.T) {
	for _, c := range right {
		text := strings.Clone("[" + c.text + "," + c.text + "]")
		first, _ := jread.Parse(text)
		second, _ := jread.Parse(text)
		lists := append(allLists(first), allLists(second)...)
		sort.Slice(lists, func(i, j int) bool { return lists[i][0] < lists[j][0] })
		for i := range lists[1:] {
			if lists[i][1] > lists[i+1][0] {
				t.Errorf("R4: Parse(%s) answers two lists that share memory", short(text))
			}
		}
		from := uintptr(unsafe.Pointer(unsafe.StringData(text)))
		for _, s := range allTexts(first) {
			if gap := uintptr(unsafe.Pointer(unsafe.StringData(s))) - from; s != "" && gap < uintptr(len(text)) {
				t.Errorf("R4: Parse(%s) answers a piece of the text itself: %s", short(text), short(s))
			}
		}
	}
}

// bracket is a list or a map that is not shut yet; keys are nil of a list.
type bracket struct {
	shut string
	keys map[string]bool
}

// What may come next.
const (
	aValue     = iota
	firstValue // or the list's end
	firstKey   // or the map's end
	aKey
	aColon
	more // a , or the end of what is around
)

// firstFault is the first fault of some words, found in another way: by a stack and what may come
// next. Of none the Errno is OK.
func firstFault(words []jlex.Word) (int, api.Errno) {
	stack := []bracket{}
	next, nodes := aValue, 0
	for _, w := range words {
		inside := len(stack) > 0
		top := bracket{}
		if inside {
			top = stack[len(stack)-1]
		}
		is := func(text string) bool { return w.Kind == mark && w.Text == text }
		shuts := inside && is(top.shut) && (next == firstValue || next == firstKey || next == more)
		begins := w.Kind != end && (w.Kind != mark || is("[") || is("{")) && (next == aValue || next == firstValue)
		switch {
		case shuts:
			stack = stack[:len(stack)-1]
			next = more
		case begins:
			nodes++
			if nodes > api.MaxNodes || len(stack)+1 > api.MaxDepth {
				return w.At, api.ELIMIT
			}
			next = more
			if is("[") {
				stack = append(stack, bracket{"]", nil})
				next = firstValue
			} else if is("{") {
				stack = append(stack, bracket{"}", map[string]bool{}})
				next = firstKey
			}
		case w.Kind == str && (next == firstKey || next == aKey):
			if top.keys[w.Text] {
				return w.At, api.ETWICE
			}
			top.keys[w.Text] = true
			next = aColon
		case is(":") && next == aColon:
			next = aValue
		case is(",") && next == more && inside:
			next = aValue
			if top.keys != nil {
				next = aKey
			}
		case w.Kind == end && next == more && !inside:
			return 0, api.OK
		default:
			return w.At, api.ESYNTAX
		}
	}
	panic("words without an end")
}

// fromLibrary makes a value of what the library read.
func fromLibrary(x any) api.Value {
	switch x := x.(type) {
	case bool:
		if x {
			return yes
		}
		return no
	case json.Number:
		if n, err := x.Int64(); err == nil && x != "-0" {
			return whole(n)
		}
		return num(string(x))
	case string:
		return said(x)
	case []any:
		v := empty
		for _, part := range x {
			v.L = append(v.L, fromLibrary(part))
		}
		return v
	case map[string]any:
		v := bare
		for key, part := range x {
			v.M = append(v.M, pair(key, fromLibrary(part)))
		}
		sort.Slice(v.M, func(i, j int) bool { return v.M[i].Key < v.M[j].Key })
		return v
	}
	return null
}

// expected is what Parse must answer, worked out in another way.
func expected(text string) (api.Value, api.Fault) {
	words, fault := jlex.Cut(text)
	if fault.Err != api.OK {
		return null, fault
	}
	if at, e := firstFault(words); e != api.OK {
		return null, faultAt(text, at, e)
	}
	var x any
	d := json.NewDecoder(strings.NewReader(text))
	d.UseNumber()
	if err := d.Decode(&x); err != nil {
		panic(err)
	}
	return fromLibrary(x), api.Fault{}
}

// checkText holds what Parse and Valid answer against what is worked out in another way.
func checkText(t *testing.T, text string) {
	t.Helper()
	want, wantFault := expected(text)
	got, fault := jread.Parse(text)
	if fault != wantFault || !value.Same(got, want) {
		t.Fatalf("P8.1: Parse(%s): %.300s, %+v, want %.300s, %+v", short(text), fmt.Sprintf("%+v", got), fault, fmt.Sprintf("%+v", want), wantFault)
	}
	if fault.Err == api.OK && !value.Good(got) {
		t.Fatalf("P8.1: Parse(%s): no Good value: %.300s", short(text), fmt.Sprintf("%+v", got))
	}
	if jread.Valid(text) != (fault.Err == api.OK) {
		t.Fatalf("P8.1: Valid(%s): %v, but Parse tells %+v", short(text), jread.Valid(text), fault)
	}
}

// Each text of up to so many of the words that make a difference.
func TestEveryShortText(t *testing.T) {
	for _, c := range []struct {
		parts  []string
		length int
	}{
		{[]string{"{", "}", "[", "]", ":", ",", `"a"`, "1 ", "null ", "#"}, 5},
		{[]string{"{", "}", "[", "]", ",", `"a":`, "1"}, 6},
		{[]string{"[", "]", ",", "1 "}, 8},
		{[]string{"{", "}", ",", `"a":1`, `"b":`, `"a"`}, 6},
	} {
		level := []string{""}
		for range c.length + 1 {
			next := []string{}
			for _, s := range level {
				checkText(t, s)
				for _, part := range c.parts {
					next = append(next, s+part)
				}
			}
			level = next
		}
	}
}

// grow makes a text of the grammar, at random.
func grow(random *rand.Rand, depth int) string {
	leaves := []string{"null", "true", "false", "0", "-0", "7", "-12.5", "1e5", "9223372036854775807", "9223372036854775808", `""`, `"a"`, `"\u20ac\n"`, "\"\u20ac\"", `"[,]"`}
	gaps := []string{"", "", "", " ", "\n", "\r\n\t"}
	gap := func() string { return gaps[random.Intn(len(gaps))] }
	kind := random.Intn(3)
	if depth == 0 || kind == 0 {
		return gap() + leaves[random.Intn(len(leaves))] + gap()
	}
	parts := []string{}
	for range random.Intn(4) {
		part := grow(random, depth-1)
		if kind == 2 {
			part = gap() + fmt.Sprintf(`"%c"`, 'a'+random.Intn(12)) + gap() + ":" + part
		}
		parts = append(parts, part)
	}
	if kind == 1 {
		return gap() + "[" + strings.Join(parts, ",") + gap() + "]" + gap()
	}
	return gap() + "{" + strings.Join(parts, ",") + gap() + "}" + gap()
}

// Texts made at random, whole ones and such as were spoilt in one place.
func TestGrown(t *testing.T) {
	random := rand.New(rand.NewSource(8))
	spoilt := []string{"{", "}", "[", "]", ":", ",", `"a"`, "1", "null", " ", "#", "\xff", `"`, "1e100001"}
	for range 20000 {
		text := grow(random, 1+random.Intn(6))
		checkText(t, text)
		at := random.Intn(len(text) + 1)
		checkText(t, text[:at])
		checkText(t, text[at:])
		checkText(t, text[:at]+spoilt[random.Intn(len(spoilt))]+text[at:])
		checkText(t, text[:at]+text[min(at+1, len(text)):])
	}
}

// growSized makes a text of the grammar with just so many nodes, at most so deep if that can be.
func growSized(random *rand.Rand, nodes, depth int) string {
	if nodes == 1 {
		return []string{"1", "[]", "{}"}[random.Intn(3)]
	}
	parts := []string{}
	inMap := random.Intn(2) == 0
	for left := nodes - 1; left > 0; {
		size := 1
		if depth > 2 && random.Intn(3) == 0 {
			size += random.Intn(left)
		}
		part := growSized(random, size, depth-1)
		if inMap {
			part = fmt.Sprintf(`"%d":%s`, len(parts), part)
		}
		parts = append(parts, part)
		left -= size
	}
	if inMap {
		return "{" + strings.Join(parts, ",") + "}"
	}
	return "[" + strings.Join(parts, ",") + "]"
}

// Texts about the limits, made at random.
func TestGrownGreat(t *testing.T) {
	random := rand.New(rand.NewSource(88))
	valid, faulty := 0, 0
	for range 60 {
		nodes := api.MaxNodes - 2 + random.Intn(5)
		text := growSized(random, nodes, 2+random.Intn(40))
		checkText(t, text)
		checkText(t, text[:len(text)-1])
		if jread.Valid(text) {
			valid++
		} else {
			faulty++
		}
	}
	if valid < 15 || faulty < 15 {
		t.Errorf("the texts are not about the limits: %d valid, %d not", valid, faulty)
	}
}

func FuzzText(f *testing.F) {
	for _, c := range right {
		f.Add(c.text)
	}
	for _, c := range wrong {
		f.Add(c.right + c.rest)
	}
	f.Fuzz(checkText)
}
