package jprint_test

import (
	"bytes"
	"encoding/json"
	"fmt"
	"math"
	"math/rand"
	"reflect"
	"strings"
	"testing"
	"unicode/utf8"

	"dragoman/api"
	"dragoman/jprint"
	"dragoman/jread"
	"dragoman/value"
)

var (
	null  = api.Value{}
	yes   = api.Value{Kind: api.Bool, N: 1}
	no    = api.Value{Kind: api.Bool}
	empty = api.Value{Kind: api.List}
	bare  = api.Value{Kind: api.Map}
)

func whole(n int64) api.Value { return api.Value{Kind: api.Int, N: n} }

func num(s string) api.Value { return api.Value{Kind: api.Num, S: s} }

func said(s string) api.Value { return api.Value{Kind: api.Str, S: s} }

func stamp(s string) api.Value { return api.Value{Kind: api.Stamp, S: s} }

func list(l ...api.Value) api.Value { return api.Value{Kind: api.List, L: l} }

func pair(key string, v api.Value) api.Pair { return api.Pair{Key: key, V: v} }

func pairs(m ...api.Pair) api.Value { return api.Value{Kind: api.Map, M: m} }

// short tells a head, so that what is long can be told.
func short(s string) string {
	if len(s) <= 200 {
		return fmt.Sprintf("%q", s)
	}
	return fmt.Sprintf("%q and so on, %d bytes", s[:200], len(s))
}

// shortValue tells a head of a value.
func shortValue(v api.Value) string { return fmt.Sprintf("%.200s", fmt.Sprintf("%+v", v)) }

// lines is a text with a byte 10 for each ¶.
func lines(s string) string { return strings.ReplaceAll(s, "¶", "\n") }

// writes tells that a value is written in just these two ways, and is read back from both.
func writes(t *testing.T, v api.Value, compact, indent string) {
	t.Helper()
	if got := jprint.Compact(v); got != compact {
		t.Errorf("P9.1: Compact of %s: %s, want %s", shortValue(v), short(got), short(compact))
	}
	if got := jprint.Indent(v); got != indent {
		t.Errorf("P9.1: Indent of %s: %s, want %s", shortValue(v), short(got), short(indent))
	}
	readsBack(t, v)
}

// readsBack tells that both texts of a value without stamps are read as that value.
func readsBack(t *testing.T, v api.Value) {
	t.Helper()
	if hasStamp(v) {
		return
	}
	for _, text := range []string{jprint.Compact(v), jprint.Indent(v)} {
		if len(text) > api.MaxText {
			continue
		}
		if back, fault := jread.Parse(text); fault != (api.Fault{}) || !value.Same(back, v) {
			t.Errorf("P9.2: %s of %s: read back as %s, %+v", short(text), shortValue(v), shortValue(back), fault)
		}
	}
}

// hasStamp tells whether a stamp is in a value.
func hasStamp(v api.Value) bool {
	for _, part := range v.L {
		if hasStamp(part) {
			return true
		}
	}
	for _, p := range v.M {
		if hasStamp(p.V) {
			return true
		}
	}
	return v.Kind == api.Stamp
}

// singles are values without parts, with their texts, which are the same in lines and without.
var singles = []struct {
	v    api.Value
	text string
}{
	{null, "null"}, {yes, "true"}, {no, "false"},
	// Ints.
	{whole(0), "0"}, {whole(1), "1"}, {whole(-1), "-1"}, {whole(5), "5"}, {whole(10), "10"}, {whole(-100), "-100"}, {whole(1000000), "1000000"}, {whole(math.MaxInt64), "9223372036854775807"}, {whole(math.MaxInt64 - 1), "9223372036854775806"}, {whole(math.MinInt64), "-9223372036854775808"}, {whole(math.MinInt64 + 1), "-9223372036854775807"}, {whole(1 << 32), "4294967296"}, {whole(-1 << 31), "-2147483648"}, {whole(1<<53 + 1), "9007199254740993"},
	// Nums, as they stand: no way of writing them is better than another.
	{num("-0"), "-0"}, {num("1.0"), "1.0"}, {num("1.50"), "1.50"}, {num("0.0"), "0.0"}, {num("-0.0"), "-0.0"}, {num("1e2"), "1e2"}, {num("1E2"), "1E2"}, {num("1.50E+05"), "1.50E+05"}, {num("1e-007"), "1e-007"}, {num("-12.5e+0"), "-12.5e+0"}, {num("0e0"), "0e0"}, {num("1e100000"), "1e100000"}, {num("1e-100000"), "1e-100000"}, {num("9223372036854775808"), "9223372036854775808"}, {num("-9223372036854775809"), "-9223372036854775809"}, {num("18446744073709551616"), "18446744073709551616"}, {num("3.1415926535897932384626433832795"), "3.1415926535897932384626433832795"}, {num(strings.Repeat("9", api.MaxDigits)), strings.Repeat("9", api.MaxDigits)},
	// Strings.
	{said(""), `""`}, {said("a"), `"a"`}, {said(" "), `" "`}, {said("abc def"), `"abc def"`}, {said("null"), `"null"`}, {said("5"), `"5"`}, {said("[,]"), `"[,]"`}, {said("{:}"), `"{:}"`}, {said("/"), `"/"`}, {said("<&>'"), `"<&>'"`},
	{said(`"`), `"\""`}, {said(`\`), `"\\"`}, {said(`\\`), `"\\\\"`}, {said(`a"b\c`), `"a\"b\\c"`}, {said(`\n`), `"\\n"`}, {said(`\u0041`), `"\\u0041"`},
	{said("\b\t\n\f\r"), `"\b\t\n\f\r"`}, {said("\x00"), `"\u0000"`}, {said("\x01\x07\x0b\x0e\x1b\x1f"), `"\u0001\u0007\u000b\u000e\u001b\u001f"`}, {said("a\nb\r\n"), `"a\nb\r\n"`}, {said("\x7f"), "\"\x7f\""},
	{said("\u0080"), "\"\u0080\""}, {said("\u00e9\u07ff"), "\"\u00e9\u07ff\""}, {said("\u0800\u20ac\u2028\u2029\ufeff\ufffd\uffff"), "\"\u0800\u20ac\u2028\u2029\ufeff\ufffd\uffff\""}, {said("\U00010000\U0001F600\U0010FFFF"), "\"\U00010000\U0001F600\U0010FFFF\""}, {said(strings.Repeat("x", api.MaxStr)), `"` + strings.Repeat("x", api.MaxStr) + `"`}, {said(strings.Repeat("\x01", api.MaxStr)), `"` + strings.Repeat(`\u0001`, api.MaxStr) + `"`},
	// Stamps, as strings.
	{stamp("2026-11-17"), `"2026-11-17"`}, {stamp("12:30:00"), `"12:30:00"`}, {stamp("2026-11-17 12:30:00.5+01:00"), `"2026-11-17 12:30:00.5+01:00"`}, {stamp(" "), `" "`}, {stamp(`a"b\c`), `"a\"b\\c"`}, {stamp("5"), `"5"`}, {stamp("null"), `"null"`}, {stamp(strings.Repeat("~", 64)), `"` + strings.Repeat("~", 64) + `"`},
}

// nests are values with parts, with their texts.
var nests = []struct {
	v               api.Value
	compact, indent string
}{
	// The chapter's example.
	{pairs(pair("a", whole(1))), `{"a":1}`, `{¶  "a": 1¶}`},
	// Empty ones, and such in one another.
	{empty, "[]", "[]"}, {bare, "{}", "{}"},
	{list(empty), "[[]]", "[¶  []¶]"}, {list(bare), "[{}]", "[¶  {}¶]"}, {list(empty, bare, empty), "[[],{},[]]", "[¶  [],¶  {},¶  []¶]"}, {list(list(empty)), "[[[]]]", "[¶  [¶    []¶  ]¶]"},
	{pairs(pair("a", empty)), `{"a":[]}`, `{¶  "a": []¶}`}, {pairs(pair("a", bare), pair("b", empty)), `{"a":{},"b":[]}`, `{¶  "a": {},¶  "b": []¶}`}, {pairs(pair("a", pairs(pair("b", bare)))), `{"a":{"b":{}}}`, `{¶  "a": {¶    "b": {}¶  }¶}`},
	// Lists, in their order.
	{list(whole(1)), "[1]", "[¶  1¶]"}, {list(whole(2), whole(1)), "[2,1]", "[¶  2,¶  1¶]"}, {list(whole(1), whole(1), whole(1)), "[1,1,1]", "[¶  1,¶  1,¶  1¶]"}, {list(null, yes, no, whole(-7), num("1.50"), said("x"), stamp("y"), empty, bare), `[null,true,false,-7,1.50,"x","y",[],{}]`, `[¶  null,¶  true,¶  false,¶  -7,¶  1.50,¶  "x",¶  "y",¶  [],¶  {}¶]`},
	{list(list(whole(1)), list(whole(2), whole(3))), "[[1],[2,3]]", "[¶  [¶    1¶  ],¶  [¶    2,¶    3¶  ]¶]"}, {list(whole(1), list(whole(2)), whole(3)), "[1,[2],3]", "[¶  1,¶  [¶    2¶  ],¶  3¶]"},
	// Maps, by rising keys.
	{pairs(pair("", null)), `{"":null}`, `{¶  "": null¶}`}, {pairs(pair("", said(""))), `{"":""}`, `{¶  "": ""¶}`}, {pairs(pair("a", whole(1)), pair("b", whole(2))), `{"a":1,"b":2}`, `{¶  "a": 1,¶  "b": 2¶}`},
	{pairs(pair("", whole(1)), pair("10", whole(2)), pair("9", whole(3)), pair("B", whole(4)), pair("a", whole(5)), pair("aa", whole(6)), pair("é", whole(7))), `{"":1,"10":2,"9":3,"B":4,"a":5,"aa":6,"é":7}`, `{¶  "": 1,¶  "10": 2,¶  "9": 3,¶  "B": 4,¶  "a": 5,¶  "aa": 6,¶  "é": 7¶}`},
	{pairs(pair("a", null), pair("b", yes), pair("c", no), pair("d", whole(0)), pair("e", num("-0")), pair("f", said("f")), pair("g", stamp("g"))), `{"a":null,"b":true,"c":false,"d":0,"e":-0,"f":"f","g":"g"}`, `{¶  "a": null,¶  "b": true,¶  "c": false,¶  "d": 0,¶  "e": -0,¶  "f": "f",¶  "g": "g"¶}`},
	// Keys that need escapes, and such as look like something else.
	{pairs(pair("\x00\n", whole(1)), pair(`"`, whole(2)), pair(":", whole(3)), pair(`\`, whole(4)), pair("\x7f", whole(5)), pair("\U0001F600", whole(6))), `{"\u0000\n":1,"\"":2,":":3,"\\":4,"` + "\x7f\":5,\"\U0001F600\":6}", `{¶  "\u0000\n": 1,¶  "\"": 2,¶  ":": 3,¶  "\\": 4,¶  "` + "\x7f\": 5,¶  \"\U0001F600\": 6¶}"},
	{pairs(pair("1", whole(1)), pair("null", null), pair("{", bare)), `{"1":1,"null":null,"{":{}}`, `{¶  "1": 1,¶  "null": null,¶  "{": {}¶}`},
	// Both in one another.
	{list(pairs(pair("a", list(pairs(pair("b", whole(1)), pair("c", list(whole(2)))))))), `[{"a":[{"b":1,"c":[2]}]}]`, `[¶  {¶    "a": [¶      {¶        "b": 1,¶        "c": [¶          2¶        ]¶      }¶    ]¶  }¶]`},
	{pairs(pair("a", list(whole(1), pairs(pair("b", empty)))), pair("c", bare)), `{"a":[1,{"b":[]}],"c":{}}`, `{¶  "a": [¶    1,¶    {¶      "b": []¶    }¶  ],¶  "c": {}¶}`},
	{list(pairs(pair("a", whole(1))), pairs(pair("a", whole(2)))), `[{"a":1},{"a":2}]`, `[¶  {¶    "a": 1¶  },¶  {¶    "a": 2¶  }¶]`},
}

func TestSingles(t *testing.T) {
	for _, c := range singles {
		writes(t, c.v, c.text, c.text)
		writes(t, list(c.v), "["+c.text+"]", "[\n  "+c.text+"\n]")
		writes(t, list(c.v, c.v), "["+c.text+","+c.text+"]", "[\n  "+c.text+",\n  "+c.text+"\n]")
		writes(t, pairs(pair("k", c.v)), `{"k":`+c.text+`}`, "{\n  \"k\": "+c.text+"\n}")
		writes(t, pairs(pair("a", c.v), pair("b", list(c.v))), `{"a":`+c.text+`,"b":[`+c.text+`]}`, "{\n  \"a\": "+c.text+",\n  \"b\": [\n    "+c.text+"\n  ]\n}")
	}
}

func TestNests(t *testing.T) {
	for _, c := range nests {
		indent := lines(c.indent)
		writes(t, c.v, c.compact, indent)
		// Within another one all its lines begin two blanks farther on.
		farther := strings.ReplaceAll(indent, "\n", "\n  ")
		writes(t, list(c.v), "["+c.compact+"]", "[\n  "+farther+"\n]")
		writes(t, list(whole(1), c.v, whole(2)), "[1,"+c.compact+",2]", "[\n  1,\n  "+farther+",\n  2\n]")
		writes(t, pairs(pair("a", whole(1)), pair("k", c.v), pair("z", c.v)), `{"a":1,"k":`+c.compact+`,"z":`+c.compact+`}`, "{\n  \"a\": 1,\n  \"k\": "+farther+",\n  \"z\": "+farther+"\n}")
	}
}

// TestNilAndEmpty: nil and an empty list are one, in whatever field.
func TestNilAndEmpty(t *testing.T) {
	for _, c := range append(singles, []struct {
		v    api.Value
		text string
	}{{empty, "[]"}, {bare, "{}"}}...) {
		v := c.v
		v.L, v.M = []api.Value{}, []api.Pair{}
		writes(t, v, c.text, c.text)
		v.L, v.M = make([]api.Value, 0, 3), make([]api.Pair, 0, 3)
		writes(t, v, c.text, c.text)
	}
}

// TestStamps: of a stamp is written what is written of a string that says the same, so that the
// string is read back.
func TestStamps(t *testing.T) {
	for b := byte(' '); b <= '~'; b++ {
		s := "a" + string(b) + "z"
		for _, v := range []api.Value{stamp(s), list(stamp(s)), pairs(pair(s, stamp(s)))} {
			like := value.Copy(v)
			switch v.Kind {
			case api.Stamp:
				like = said(s)
			case api.List:
				like.L[0] = said(s)
			case api.Map:
				like.M[0].V = said(s)
			}
			writes(t, v, jprint.Compact(like), jprint.Indent(like))
			if back, fault := jread.Parse(jprint.Compact(v)); fault.Err != api.OK || !value.Same(back, like) {
				t.Errorf("P9.1: Compact of %s: read as %s, %+v", shortValue(v), shortValue(back), fault)
			}
		}
	}
}

// escapes are the letters that are not written as they are.
var escapes = func() *strings.Replacer {
	named := map[byte]string{'"': `\"`, '\\': `\\`, 8: `\b`, 9: `\t`, 10: `\n`, 12: `\f`, 13: `\r`}
	for b := range byte(32) {
		if _, there := named[b]; !there {
			named[b] = fmt.Sprintf(`\u%04x`, b)
		}
	}
	all := []string{}
	for b, text := range named {
		all = append(all, string([]byte{b}), text)
	}
	return strings.NewReplacer(all...)
}()

// quoted is a string's text, worked out in another way.
func quoted(s string) string { return `"` + escapes.Replace(s) + `"` }

// TestEveryLetter goes through every letter, as a string and as a key.
func TestEveryLetter(t *testing.T) {
	const most = 1000
	piece := []rune{}
	check := func() {
		s := string(piece)
		text := quoted(s)
		writes(t, said(s), text, text)
		writes(t, pairs(pair(s, said(s))), "{"+text+":"+text+"}", "{\n  "+text+": "+text+"\n}")
		piece = piece[:0]
	}
	for r := rune(0); r <= utf8.MaxRune; r++ {
		if !utf8.ValidRune(r) {
			continue
		}
		piece = append(piece, r)
		if r < 256 || len(piece) == most {
			check()
		}
	}
	check()
}

// nested is a tree that is so deep, of lists, of maps, or of both by turns, with this at its bottom;
// and its two texts.
func nested(depth int, how string, bottom api.Value, text string) (api.Value, string, string) {
	v, compact, indent := bottom, text, text
	for i := range depth - 1 {
		farther := strings.ReplaceAll(indent, "\n", "\n  ")
		if how == "lists" || how == "both" && i%2 == 0 {
			v, compact, indent = list(v), "["+compact+"]", "[\n  "+farther+"\n]"
		} else {
			v, compact, indent = pairs(pair("k", v)), `{"k":`+compact+`}`, "{\n  \"k\": "+farther+"\n}"
		}
	}
	return v, compact, indent
}

// TestDepth: at MaxDepth all is written, one past it nothing.
func TestDepth(t *testing.T) {
	for _, how := range []string{"lists", "maps", "both"} {
		for _, bottom := range []struct {
			v    api.Value
			text string
		}{{whole(1), "1"}, {empty, "[]"}, {bare, "{}"}, {said("\n"), `"\n"`}} {
			for depth := 1; depth <= api.MaxDepth+2; depth++ {
				v, compact, indent := nested(depth, how, bottom.v, bottom.text)
				if depth > api.MaxDepth {
					writesNothing(t, v)
				} else {
					writes(t, v, compact, indent)
				}
			}
		}
	}
	// As deep as anything may be that is handed in.
	inLists, inMaps := whole(1), whole(1)
	for range 1<<16 - 1 {
		inLists, inMaps = list(inLists), pairs(pair("k", inMaps))
	}
	writesNothing(t, inLists)
	writesNothing(t, inMaps)
}

// TestNodes: at MaxNodes all is written, one past it nothing.
func TestNodes(t *testing.T) {
	wide, keyed := empty, bare
	compact, keyedCompact := []string{}, []string{}
	for i := range api.MaxNodes - 1 {
		key := fmt.Sprintf("%04d", i)
		wide.L = append(wide.L, whole(int64(i)))
		keyed.M = append(keyed.M, pair(key, whole(int64(i))))
		compact = append(compact, fmt.Sprint(i))
		keyedCompact = append(keyedCompact, fmt.Sprintf(`"%s":%d`, key, i))
	}
	writes(t, wide, "["+strings.Join(compact, ",")+"]", "[\n  "+strings.Join(compact, ",\n  ")+"\n]")
	writes(t, keyed, "{"+strings.Join(keyedCompact, ",")+"}", "{\n  "+strings.ReplaceAll(strings.Join(keyedCompact, ",\n  "), `":`, `": `)+"\n}")
	wide.L = append(wide.L, null)
	keyed.M = append(keyed.M, pair("~", null))
	writesNothing(t, wide)
	writesNothing(t, keyed)
}

// xs is a list of strings whose Compact text has just so many bytes.
func xs(size int) api.Value {
	v := empty
	for left := size - 1; left > 0; {
		n := min(left, api.MaxStr)
		if left-n < 3 && left != n {
			n = left - 3
		}
		v.L = append(v.L, said(strings.Repeat("x", n-3)))
		left -= n
	}
	return v
}

// TestMaxText: a text of just MaxText bytes is read back; a longer one is written all the same.
func TestMaxText(t *testing.T) {
	v := xs(api.MaxText)
	text := jprint.Compact(v)
	if len(text) != api.MaxText {
		t.Fatalf("P9.1: Compact of strings: %d bytes, want %d", len(text), api.MaxText)
	}
	if back, fault := jread.Parse(text); fault.Err != api.OK || !value.Same(back, v) {
		t.Errorf("P9.2: Compact of just MaxText bytes: %+v", fault)
	}
	// In lines there are a byte 10 and two blanks more for each part, and a byte 10 at the end: past MaxText.
	if got := jprint.Indent(v); len(got) != api.MaxText+3*len(v.L)+1 || !sameText(got, text) {
		t.Errorf("P9.1: Indent past MaxText: %d bytes", len(got))
	}
	size := api.MaxText
	for len(jprint.Indent(xs(size))) > api.MaxText {
		size--
	}
	if got := len(jprint.Indent(xs(size))); got != api.MaxText {
		t.Errorf("P9.1: Indent of strings: %d bytes, want %d", got, api.MaxText)
	}
	readsBack(t, xs(size))
	longer := xs(api.MaxText + 1)
	if got := jprint.Compact(longer); len(got) != api.MaxText+1 || jread.Valid(got) {
		t.Errorf("P9.1: Compact past MaxText: %d bytes, which jread reads: %v", len(got), jread.Valid(got))
	}
}

// sameText tells whether two texts are the same but for the blanks, by the library's JSON.
func sameText(a, b string) bool {
	var x, y bytes.Buffer
	return json.Compact(&x, []byte(a)) == nil && json.Compact(&y, []byte(b)) == nil && x.String() == y.String()
}

// TestGreat: the greatest texts are written to their end: of strings and keys that are all escapes.
func TestGreat(t *testing.T) {
	const parts = 500
	s := strings.Repeat("\x01", api.MaxStr)
	v, want := bare, []string{}
	for i := range parts {
		key := fmt.Sprintf("%03d", i) + s[3:]
		v.M = append(v.M, pair(key, said(s)))
		want = append(want, quoted(key)+":"+quoted(s))
	}
	if got := jprint.Compact(v); got != "{"+strings.Join(want, ",")+"}" {
		t.Errorf("P9.1: Compact of great strings: %s", short(got))
	}
	if got := jprint.Indent(v); got != "{\n  "+strings.ReplaceAll(strings.Join(want, ",\n  "), `":`, `": `)+"\n}" {
		t.Errorf("P9.1: Indent of great strings: %s", short(got))
	}
}

// wrong are values that are not Good.
func wrong() []api.Value {
	all := []api.Value{
		{Kind: 8}, {Kind: 9}, {Kind: -1}, {Kind: math.MaxInt64}, {Kind: math.MinInt64}, {Kind: 8, L: []api.Value{{}}}, {Kind: 1 << 32},
		{Kind: api.Bool, N: 2}, {Kind: api.Bool, N: -1}, {Kind: api.Bool, N: 1 << 32},
		num(""), num("5"), num("0"), num("-9223372036854775808"), num("9223372036854775807"), num("x"), num("01.5"), num("1."), num(".5"), num("+1.5"), num("1.5 "), num("1e100001"), num("NaN"), num("true"), num("null"), num(`"a"`), num("[1.5]"), num(strings.Repeat("9", api.MaxDigits+1)),
		said("\xff"), said("a\xff"), said("\xc0\x80"), said("\xe2\x82"), said("\xed\xa0\x80"), said("\xf4\x90\x80\x80"), said(strings.Repeat("x", api.MaxStr+1)),
		stamp(""), stamp("\n"), stamp("a\x1f"), stamp("\x7f"), stamp("\u00e9"), stamp("\xff"), stamp(strings.Repeat("x", 65)),
		pairs(pair("b", null), pair("a", null)), pairs(pair("a", null), pair("a", null)), pairs(pair("a", whole(1)), pair("a", whole(2))), pairs(pair("a", null), pair("c", null), pair("b", null)), pairs(pair("", null), pair("", null)), pairs(pair("2", null), pair("10", null)), pairs(pair("\xff", null)), pairs(pair("a", null), pair("b\x80", null)), pairs(pair(strings.Repeat("x", api.MaxStr+1), null)),
	}
	// A field filled that the kind leaves empty.
	for _, v := range []api.Value{null, yes, whole(7), num("7.5"), said("s"), stamp("s"), list(null), pairs(pair("a", null)), empty, bare} {
		n, s, l, m := v, v, v, v
		n.N, s.S, l.L, m.M = 1, "7.5", []api.Value{{}}, []api.Pair{{}}
		if v.Kind != api.Bool && v.Kind != api.Int {
			all = append(all, n)
		}
		if v.Kind != api.Num && v.Kind != api.Str && v.Kind != api.Stamp {
			all = append(all, s)
		}
		if v.Kind != api.List {
			all = append(all, l)
		}
		if v.Kind != api.Map {
			all = append(all, m)
		}
	}
	return all
}

// writesNothing tells that nothing is written of a value.
func writesNothing(t *testing.T, v api.Value) {
	t.Helper()
	if got := jprint.Compact(v); got != "" {
		t.Errorf("P9.1: Compact of %s, which is not Good: %s", shortValue(v), short(got))
	}
	if got := jprint.Indent(v); got != "" {
		t.Errorf("P9.1: Indent of %s, which is not Good: %s", shortValue(v), short(got))
	}
}

// TestWrong: of what is not Good nothing is written, wherever in it the wrong part stands.
func TestWrong(t *testing.T) {
	for _, v := range wrong() {
		writesNothing(t, v)
		for _, around := range []api.Value{
			list(v), list(v, whole(1)), list(whole(1), v), list(list(whole(1)), list(list(v))),
			pairs(pair("a", v)), pairs(pair("a", whole(1)), pair("b", v)), pairs(pair("a", pairs(pair("b", list(v)))), pair("b", whole(1))),
			list(pairs(pair("a", empty), pair("b", list(bare, pairs(pair("", v)))))),
		} {
			writesNothing(t, around)
		}
		for range api.MaxDepth - 2 {
			v = pairs(pair("a", list()), pair("b", list(said("x"), v)))
		}
		writesNothing(t, v)
	}
}

// TestEnds: a value that is a part of itself is too deep, and of it nothing is written.
func TestEnds(t *testing.T) {
	l := make([]api.Value, 2)
	l[0], l[1] = list(l...), list(l...)
	writesNothing(t, l[0])
	m := []api.Pair{pair("a", null), pair("b", null)}
	m[1].V = pairs(m...)
	writesNothing(t, pairs(m...))
}

// texts are the strings and keys of which grown trees are made.
var texts = []string{"", "a", "b", "A", "10", "9", " ", "\n", "\x00", "\x1f\x7f", `"`, `\`, `\u0041`, "a\"b\\c\td", "\u00e9", "e\u0301", "\u20ac", "\u2028", "\uffff", "\U0001F600", "[", "]", "{", "}", ":", ",", "null", "1.5", "  x  "}

// grow makes a Good value at random, with stamps or without.
func grow(random *rand.Rand, depth int, stamps bool) api.Value {
	leaves := []api.Value{null, yes, no, whole(0), whole(-12), whole(math.MaxInt64), whole(math.MinInt64), num("-0"), num("1.50"), num("1E+05"), num("9223372036854775808"), empty, bare}
	kind := random.Intn(4)
	switch {
	case kind == 0 || depth == 1:
		n := random.Intn(len(leaves) + len(texts) + 1)
		if n < len(leaves) {
			return leaves[n]
		}
		if n -= len(leaves); n < len(texts) {
			return said(texts[n])
		}
		if stamps {
			return stamp("2026-11-17")
		}
		return null
	case kind == 1:
		v := empty
		for range random.Intn(5) {
			v.L = append(v.L, grow(random, depth-1, stamps))
		}
		return v
	}
	m := []api.Pair{}
	for _, i := range random.Perm(len(texts))[:random.Intn(5)] {
		m = append(m, pair(texts[i], grow(random, depth-1, stamps)))
	}
	v, _ := value.Map(m...)
	return v
}

// compactOf is the text that Compact must answer, worked out in another way.
func compactOf(v api.Value) string {
	parts := []string{}
	for _, part := range v.L {
		parts = append(parts, compactOf(part))
	}
	for _, p := range v.M {
		parts = append(parts, quoted(p.Key)+":"+compactOf(p.V))
	}
	all := strings.Join(parts, ",")
	return [...]string{"null", fmt.Sprint(v.N == 1), fmt.Sprint(v.N), v.S, quoted(v.S), "[" + all + "]", "{" + all + "}", quoted(v.S)}[v.Kind]
}

// indentOf is the text that Indent must answer, by the library's JSON, which lays it out just so.
func indentOf(v api.Value) string {
	var out bytes.Buffer
	if err := json.Indent(&out, []byte(compactOf(v)), "", "  "); err != nil {
		panic(err)
	}
	return out.String()
}

func TestGrown(t *testing.T) {
	random := rand.New(rand.NewSource(9))
	for i := range 20000 {
		v := grow(random, 1+random.Intn(7), i%4 == 0)
		if value.Good(v) {
			writes(t, v, compactOf(v), indentOf(v))
		}
	}
}

// TestSpoilt: grown trees with one part that may not be, somewhere.
func TestSpoilt(t *testing.T) {
	random := rand.New(rand.NewSource(99))
	spoils := wrong()
	for range 20000 {
		v := grow(random, 1+random.Intn(6), true)
		spoil(random, &v, spoils[random.Intn(len(spoils))])
		writesNothing(t, v)
	}
}

// spoil lays a part in at some place of a value.
func spoil(random *rand.Rand, v *api.Value, part api.Value) {
	switch {
	case len(v.L) > 0 && random.Intn(4) > 0:
		spoil(random, &v.L[random.Intn(len(v.L))], part)
	case len(v.M) > 0 && random.Intn(4) > 0:
		spoil(random, &v.M[random.Intn(len(v.M))].V, part)
	default:
		*v = part
	}
}

// roomy is a copy with spare room in each list, filled.
func roomy(v api.Value) api.Value {
	l, m := []api.Value{}, []api.Pair{}
	for _, part := range v.L {
		l = append(l, roomy(part))
	}
	for _, p := range v.M {
		m = append(m, pair(p.Key, roomy(p.V)))
	}
	v.L = append(l, said("spare"), said("spare"))[:len(l)]
	v.M = append(m, pair("spare", null), pair("spare", null))[:len(m)]
	return v
}

// withRoom is a copy in which spare room is not spare: all of it can be held against another.
func withRoom(v api.Value) api.Value {
	l, m := v.L[:cap(v.L)], v.M[:cap(v.M)]
	v.L, v.M = nil, nil
	for _, part := range l {
		v.L = append(v.L, withRoom(part))
	}
	for _, p := range m {
		v.M = append(v.M, pair(p.Key, withRoom(p.V)))
	}
	return v
}

// TestArguments: R4 and R5, what is handed in stays as it is, and the answer hangs on it alone.
func TestArguments(t *testing.T) {
	random := rand.New(rand.NewSource(4))
	spoils := wrong()
	for i := range 2000 {
		v := grow(random, 1+random.Intn(5), true)
		if i%3 == 0 {
			spoil(random, &v, spoils[random.Intn(len(spoils))])
		}
		v = roomy(v)
		before := withRoom(v)
		compact, indent := jprint.Compact(v), jprint.Indent(v)
		if !reflect.DeepEqual(withRoom(v), before) {
			t.Fatalf("R4: %s was changed", shortValue(before))
		}
		if plain := value.Copy(v); jprint.Indent(plain) != indent || jprint.Compact(plain) != compact {
			t.Fatalf("R5: %s is written in two ways", shortValue(v))
		}
	}
}

// FuzzText: the value that a text says is written in the one way, and read back.
func FuzzText(f *testing.F) {
	for _, c := range singles {
		f.Add(c.text)
	}
	for _, c := range nests {
		f.Add(c.compact)
		f.Add(lines(c.indent))
	}
	f.Fuzz(func(t *testing.T, text string) {
		v, fault := jread.Parse(text)
		if fault.Err == api.OK {
			writes(t, v, compactOf(v), indentOf(v))
		}
	})
}
