package tprint_test

import (
	"fmt"
	"math"
	"strings"
	"testing"

	"dragoman/api"
	"dragoman/jread"
	"dragoman/tprint"
	"dragoman/tread"
	"dragoman/value"
)

var (
	null  = api.Value{}
	yes   = api.Value{Kind: api.Bool, N: 1}
	no    = api.Value{Kind: api.Bool}
	empty = api.Value{Kind: api.List}
	bare  = api.Value{Kind: api.Map}
)

func whole(n int64) api.Value { return api.Value{Kind: api.Int, N: n} }

func num(s string) api.Value { return api.Value{Kind: api.Num, S: s} }

func said(s string) api.Value { return api.Value{Kind: api.Str, S: s} }

func stamp(s string) api.Value { return api.Value{Kind: api.Stamp, S: s} }

func list(l ...api.Value) api.Value { return api.Value{Kind: api.List, L: l} }

func pair(key string, v api.Value) api.Pair { return api.Pair{Key: key, V: v} }

func pairs(m ...api.Pair) api.Value { return api.Value{Kind: api.Map, M: m} }

// of is a map of one pair.
func of(key string, v api.Value) api.Value { return pairs(pair(key, v)) }

// short tells a head, so that what is long can be told.
func short(s string) string {
	if len(s) <= 300 {
		return fmt.Sprintf("%q", s)
	}
	return fmt.Sprintf("%q and so on, %d bytes", s[:300], len(s))
}

// told tells a head of a value.
func told(v api.Value) string { return fmt.Sprintf("%.300s", fmt.Sprintf("%+v", v)) }

// lines is a text with a byte 10 for each ¶.
func lines(s string) string { return strings.ReplaceAll(s, "¶", "\n") }

// fromJSON is the value that a text of JSON says.
func fromJSON(t *testing.T, json string) api.Value {
	t.Helper()
	v, fault := jread.Parse(json)
	if fault.Err != api.OK {
		t.Fatalf("%s is no JSON: %+v", short(json), fault)
	}
	return v
}

// writes tells that a value may be TOML, is written in just this way, and is read back.
func writes(t *testing.T, v api.Value, text string) {
	t.Helper()
	if !tprint.May(v) {
		t.Errorf("P12.1: May of %s: false", told(v))
	}
	if got := tprint.Print(v); got != text {
		t.Errorf("P12.1: Print of %s: %s, want %s", told(v), short(got), short(text))
	}
	readsBack(t, v)
}

// readsBack tells that what is written of a value, in at most MaxText bytes, is read as that value.
func readsBack(t *testing.T, v api.Value) {
	t.Helper()
	text := tprint.Print(v)
	if len(text) > api.MaxText {
		return
	}
	if back, fault := tread.Parse(text); fault != (api.Fault{}) || !value.Same(back, v) {
		t.Errorf("P12.2: %s of %s: read back as %s, %+v", short(text), told(v), told(back), fault)
	}
}

// writesNothing tells that a value may not be TOML, and that nothing is written of it.
func writesNothing(t *testing.T, v api.Value) {
	t.Helper()
	if tprint.May(v) {
		t.Errorf("P12.1: May of %s: true", told(v))
	}
	if got := tprint.Print(v); got != "" {
		t.Errorf("P12.1: Print of %s, which may not be: %s", told(v), short(got))
	}
}

// tables are maps, told in JSON, with their texts.
var tables = []struct{ json, text string }{
	// The chapter's example.
	{`{"a":1,"t":{"b":2}}`, "a = 1¶¶[t]¶b = 2¶"},
	// Plain pairs, in order.
	{`{}`, ""}, {`{"a":1}`, "a = 1¶"}, {`{"a":1,"b":2}`, "a = 1¶b = 2¶"}, {`{"b":1,"a":2}`, "a = 2¶b = 1¶"},
	{`{"a":true,"b":false,"c":0,"d":-7,"e":1.50,"f":"x","g":[],"h":[1,"y"]}`, "a = true¶b = false¶c = 0¶d = -7¶e = 1.50¶f = \"x\"¶g = []¶h = [1, \"y\"]¶"},
	{`{"10":1,"9":2,"B":3,"_":4,"a":5,"aa":6,"-":7}`, "- = 7¶10 = 1¶9 = 2¶B = 3¶_ = 4¶a = 5¶aa = 6¶"},
	// Maps: nothing stands ahead of a first header but what is written.
	{`{"t":{}}`, "[t]¶"}, {`{"t":{"a":1}}`, "[t]¶a = 1¶"}, {`{"a":{},"b":{}}`, "[a]¶¶[b]¶"}, {`{"a":{"x":1},"b":{"x":2}}`, "[a]¶x = 1¶¶[b]¶x = 2¶"}, {`{"a":[],"b":{}}`, "a = []¶¶[b]¶"},
	{`{"a":{"b":{}}}`, "[a]¶¶[a.b]¶"}, {`{"a":{"b":{"c":{}}}}`, "[a]¶¶[a.b]¶¶[a.b.c]¶"}, {`{"a":{"b":{"c":{"d":1}}}}`, "[a]¶¶[a.b]¶¶[a.b.c]¶d = 1¶"}, {`{"a":{"a":{"a":{"a":1}}}}`, "[a]¶¶[a.a]¶¶[a.a.a]¶a = 1¶"},
	{`{"a":{"b":{},"c":{}},"d":{"e":{}}}`, "[a]¶¶[a.b]¶¶[a.c]¶¶[d]¶¶[d.e]¶"},
	// Plain pairs come ahead of maps and of lists of maps, wherever they stand in the order.
	{`{"a":{"x":1},"b":2}`, "b = 2¶¶[a]¶x = 1¶"}, {`{"a":{},"b":1,"c":{},"d":2,"e":{}}`, "b = 1¶d = 2¶¶[a]¶¶[c]¶¶[e]¶"}, {`{"a":{"b":{"c":1},"d":2},"e":3}`, "e = 3¶¶[a]¶d = 2¶¶[a.b]¶c = 1¶"}, {`{"a":{"b":{}},"c":{"d":1}}`, "[a]¶¶[a.b]¶¶[c]¶d = 1¶"},
	{`{"a":[{}],"b":1,"c":{},"d":[2],"e":[{"f":3}]}`, "b = 1¶d = [2]¶¶[[a]]¶¶[c]¶¶[[e]]¶f = 3¶"}, {`{"a":{"x":{},"y":1,"z":[{}]},"b":[{"x":{},"y":1,"z":[{}]}]}`, "[a]¶y = 1¶¶[a.x]¶¶[[a.z]]¶¶[[b]]¶y = 1¶¶[b.x]¶¶[[b.z]]¶"},
	// Lists of maps.
	{`{"a":[{}]}`, "[[a]]¶"}, {`{"a":[{},{}]}`, "[[a]]¶¶[[a]]¶"}, {`{"a":[{},{},{}]}`, "[[a]]¶¶[[a]]¶¶[[a]]¶"}, {`{"a":[{"x":1}]}`, "[[a]]¶x = 1¶"}, {`{"a":[{"x":1},{}],"b":2}`, "b = 2¶¶[[a]]¶x = 1¶¶[[a]]¶"}, {`{"a":[{},{"x":2},{}]}`, "[[a]]¶¶[[a]]¶x = 2¶¶[[a]]¶"}, {`{"a":[{"x":1},{"x":1}]}`, "[[a]]¶x = 1¶¶[[a]]¶x = 1¶"}, {`{"a":[{"y":2},{"x":1}]}`, "[[a]]¶y = 2¶¶[[a]]¶x = 1¶"},
	{`{"a":[{"b":{}}]}`, "[[a]]¶¶[a.b]¶"}, {`{"a":[{"b":{}},{"b":{}}]}`, "[[a]]¶¶[a.b]¶¶[[a]]¶¶[a.b]¶"}, {`{"a":[{"b":{"c":{"d":1}}}]}`, "[[a]]¶¶[a.b]¶¶[a.b.c]¶d = 1¶"}, {`{"a":{"b":[{}]}}`, "[a]¶¶[[a.b]]¶"}, {`{"a":{"b":[{"c":{"d":[{}]}}]}}`, "[a]¶¶[[a.b]]¶¶[a.b.c]¶¶[[a.b.c.d]]¶"},
	{`{"a":[{}],"b":{}}`, "[[a]]¶¶[b]¶"}, {`{"a":{},"b":[{}]}`, "[a]¶¶[[b]]¶"}, {`{"a":[{}],"b":[{}]}`, "[[a]]¶¶[[b]]¶"},
	// Lists of maps within lists of maps.
	{`{"a":[{"b":[{}]}]}`, "[[a]]¶¶[[a.b]]¶"}, {`{"a":[{"b":[{"c":[{}]}],"d":1}]}`, "[[a]]¶d = 1¶¶[[a.b]]¶¶[[a.b.c]]¶"}, {`{"a":[{"b":[{},{}]},{"b":[{}]},{}]}`, "[[a]]¶¶[[a.b]]¶¶[[a.b]]¶¶[[a]]¶¶[[a.b]]¶¶[[a]]¶"}, {`{"a":[{"b":[{"c":1},{"c":2}],"d":3},{"b":[{"c":4}]}]}`, "[[a]]¶d = 3¶¶[[a.b]]¶c = 1¶¶[[a.b]]¶c = 2¶¶[[a]]¶¶[[a.b]]¶c = 4¶"}, {`{"a":[{"a":[{"a":[{"a":1},{}]},{}]},{}]}`, "[[a]]¶¶[[a.a]]¶¶[[a.a.a]]¶a = 1¶¶[[a.a.a]]¶¶[[a.a]]¶¶[[a]]¶"}, {`{"a":[{"b":[{"x":{"c":[{},{"y":1}]}}]},{"b":[{"x":{}}]}]}`, "[[a]]¶¶[[a.b]]¶¶[a.b.x]¶¶[[a.b.x.c]]¶¶[[a.b.x.c]]¶y = 1¶¶[[a]]¶¶[[a.b]]¶¶[a.b.x]¶"},
	// Lists that are not of maps alone stand in one line, and what is in them.
	{`{"a":[]}`, "a = []¶"}, {`{"a":[1]}`, "a = [1]¶"}, {`{"a":[2,1]}`, "a = [2, 1]¶"}, {`{"a":[1,1,1]}`, "a = [1, 1, 1]¶"}, {`{"a":[[]]}`, "a = [[]]¶"}, {`{"a":[[],[]]}`, "a = [[], []]¶"}, {`{"a":[[1],[2,[3]]]}`, "a = [[1], [2, [3]]]¶"}, {`{"a":[true,1.5,"x",[],{}]}`, "a = [true, 1.5, \"x\", [], {}]¶"},
	{`{"a":[{},1]}`, "a = [{}, 1]¶"}, {`{"a":[1,{}]}`, "a = [1, {}]¶"}, {`{"a":[{"b":1},2]}`, "a = [{b = 1}, 2]¶"}, {`{"a":[{},{},[]]}`, "a = [{}, {}, []]¶"}, {`{"a":[{},0,{}]}`, "a = [{}, 0, {}]¶"}, {`{"a":["",{"b":{}}]}`, "a = [\"\", {b = {}}]¶"}, {`{"a":[1,[2],{"c":{}}]}`, "a = [1, [2], {c = {}}]¶"},
	// A list of maps in a list is in one line, too, and so is a map of a map there.
	{`{"a":[[{}]]}`, "a = [[{}]]¶"}, {`{"a":[[{"b":1}]]}`, "a = [[{b = 1}]]¶"}, {`{"a":[[{}],[{}]]}`, "a = [[{}], [{}]]¶"}, {`{"a":[[{"b":1,"c":2},{"d":[{"e":{"f":3}}]}]]}`, "a = [[{b = 1, c = 2}, {d = [{e = {f = 3}}]}]]¶"}, {`{"a":[0,{"b":[{"c":1}],"d":{"e":2}}]}`, "a = [0, {b = [{c = 1}], d = {e = 2}}]¶"},
	// Within a line the pairs keep their order.
	{`{"a":[0,{"b":{},"c":1,"d":[{}],"e":2}]}`, "a = [0, {b = {}, c = 1, d = [{}], e = 2}]¶"}, {`{"a":[0,{"z":1,"y":2,"x":3}]}`, "a = [0, {x = 3, y = 2, z = 1}]¶"},
	{`{"t":{"a":[0,{"b":1}]},"u":[{"a":[{},[]]}]}`, "[t]¶a = [0, {b = 1}]¶¶[[u]]¶a = [{}, []]¶"},
	// Keys that are not Bare.
	{`{"":1}`, "\"\" = 1¶"}, {`{"":{}}`, "[\"\"]¶"}, {`{"":[{}]}`, "[[\"\"]]¶"}, {`{"":{"":{"":""}}}`, "[\"\"]¶¶[\"\".\"\"]¶\"\" = \"\"¶"}, {`{"":[{"":[{"":[{}]}]}]}`, "[[\"\"]]¶¶[[\"\".\"\"]]¶¶[[\"\".\"\".\"\"]]¶"}, {`{"":[0,{"":{"":[""]}}]}`, "\"\" = [0, {\"\" = {\"\" = [\"\"]}}]¶"},
	{`{"a b":"x\n","":true,"é":1.5}`, "\"\" = true¶\"a b\" = \"x\\n\"¶\"é\" = 1.5¶"}, {`{"a":{"b":{"c.d":{"e":1}}}}`, "[a]¶¶[a.b]¶¶[a.b.\"c.d\"]¶e = 1¶"}, {`{"a.b":{"c":{}}}`, "[\"a.b\"]¶¶[\"a.b\".c]¶"}, {`{"a":{"b":1},"a.b":2}`, "\"a.b\" = 2¶¶[a]¶b = 1¶"}, {`{"#":{"=":{"]":[{"[":1}]}}}`, "[\"#\"]¶¶[\"#\".\"=\"]¶¶[[\"#\".\"=\".\"]\"]]¶\"[\" = 1¶"}, {`{"a":{"\"":{"\\":{"\u0000":1}}}}`, "[a]¶¶[a.\"\\\"\"]¶¶[a.\"\\\"\".\"\\\\\"]¶\"\\u0000\" = 1¶"},
}

func TestTables(t *testing.T) {
	for _, c := range tables {
		writes(t, fromJSON(t, c.json), lines(c.text))
	}
}

// singles are values without parts, with their texts.
var singles = []struct {
	v    api.Value
	text string
}{
	{yes, "true"}, {no, "false"},
	// Ints.
	{whole(0), "0"}, {whole(1), "1"}, {whole(-1), "-1"}, {whole(10), "10"}, {whole(-100), "-100"}, {whole(1000000), "1000000"}, {whole(1 << 32), "4294967296"}, {whole(1<<53 + 1), "9007199254740993"}, {whole(math.MaxInt64), "9223372036854775807"}, {whole(math.MinInt64), "-9223372036854775808"},
	// Nums, as they stand: with a dot, with an e of either case, with both.
	{num("1.0"), "1.0"}, {num("1.50"), "1.50"}, {num("0.0"), "0.0"}, {num("-0.0"), "-0.0"}, {num("1e2"), "1e2"}, {num("1E2"), "1E2"}, {num("-1e2"), "-1e2"}, {num("0e0"), "0e0"}, {num("-0E-0"), "-0E-0"}, {num("1.50E+05"), "1.50E+05"}, {num("1e-007"), "1e-007"}, {num("-12.5e+0"), "-12.5e+0"}, {num("1e100000"), "1e100000"}, {num("1E-100000"), "1E-100000"}, {num("9223372036854775808.0"), "9223372036854775808.0"}, {num("99999999999999999999e0"), "99999999999999999999e0"}, {num("3.1415926535897932384626433832795"), "3.1415926535897932384626433832795"}, {num("0." + strings.Repeat("9", api.MaxDigits-2)), "0." + strings.Repeat("9", api.MaxDigits-2)},
	// Strings, also such as look like something else.
	{said(""), `""`}, {said("a"), `"a"`}, {said(" "), `" "`}, {said("abc def"), `"abc def"`}, {said("true"), `"true"`}, {said("5"), `"5"`}, {said("1979-05-27"), `"1979-05-27"`}, {said("inf"), `"inf"`}, {said("[,]"), `"[,]"`}, {said("{=}"), `"{=}"`}, {said("# x"), `"# x"`}, {said("'"), `"'"`}, {said("'''"), `"'''"`}, {said("/<&>"), `"/<&>"`},
	{said(`"`), `"\""`}, {said(`""`), `"\"\""`}, {said(`"""`), `"\"\"\""`}, {said(`\`), `"\\"`}, {said(`\\`), `"\\\\"`}, {said(`a"b\c`), `"a\"b\\c"`}, {said(`\n`), `"\\n"`}, {said(`\u0041`), `"\\u0041"`}, {said(`\U0001F600`), `"\\U0001F600"`},
	{said("\b\t\n\f\r"), `"\b\t\n\f\r"`}, {said("\x00"), `"\u0000"`}, {said("\x01\x07\x0b\x0e\x1b\x1f"), `"\u0001\u0007\u000b\u000e\u001b\u001f"`}, {said("a\nb\r\n"), `"a\nb\r\n"`}, {said("\x7f"), `"\u007f"`}, {said("\x7e\x7f\u0080"), "\"~\\u007f\u0080\""},
	{said("\u00e9\u07ff"), "\"\u00e9\u07ff\""}, {said("\u0800\u20ac\u2028\u2029\ufeff\ufffd\uffff"), "\"\u0800\u20ac\u2028\u2029\ufeff\ufffd\uffff\""}, {said("\U00010000\U0001F600\U0010FFFF"), "\"\U00010000\U0001F600\U0010FFFF\""}, {said(strings.Repeat("x", api.MaxStr)), `"` + strings.Repeat("x", api.MaxStr) + `"`}, {said(strings.Repeat("\x7f", api.MaxStr)), `"` + strings.Repeat(`\u007f`, api.MaxStr) + `"`}, {said(strings.Repeat("\"", api.MaxStr)), `"` + strings.Repeat(`\"`, api.MaxStr) + `"`},
	// Stamps, as they stand.
	{stamp("1979-05-27"), "1979-05-27"}, {stamp("0000-01-01"), "0000-01-01"}, {stamp("2024-02-29"), "2024-02-29"}, {stamp("9999-12-31"), "9999-12-31"}, {stamp("07:32:00"), "07:32:00"}, {stamp("07:32:00.5"), "07:32:00.5"}, {stamp("23:59:60.123456789"), "23:59:60.123456789"}, {stamp("1979-05-27T07:32:00"), "1979-05-27T07:32:00"}, {stamp("1979-05-27t07:32:00"), "1979-05-27t07:32:00"}, {stamp("1979-05-27 07:32:00"), "1979-05-27 07:32:00"}, {stamp("1979-05-27T07:32:00Z"), "1979-05-27T07:32:00Z"}, {stamp("1979-05-27 07:32:00z"), "1979-05-27 07:32:00z"}, {stamp("1979-05-27 07:32:00.999999999-23:59"), "1979-05-27 07:32:00.999999999-23:59"}, {stamp("1979-05-27T00:00:00+00:00"), "1979-05-27T00:00:00+00:00"},
	{stamp("inf"), "inf"}, {stamp("+inf"), "+inf"}, {stamp("-inf"), "-inf"}, {stamp("nan"), "nan"}, {stamp("+nan"), "+nan"}, {stamp("-nan"), "-nan"},
}

// TestSingles: each value without parts, in each place where one may stand.
func TestSingles(t *testing.T) {
	for _, c := range singles {
		v, s := c.v, c.text
		writes(t, of("k", v), "k = "+s+"\n")
		writes(t, pairs(pair("a", v), pair("b", v)), "a = "+s+"\nb = "+s+"\n")
		writes(t, of("k", list(v)), "k = ["+s+"]\n")
		writes(t, of("k", list(v, v)), "k = ["+s+", "+s+"]\n")
		writes(t, of("k", list(list(v), list(v, empty))), "k = [["+s+"], ["+s+", []]]\n")
		writes(t, of("k", list(of("x", v), v)), "k = [{x = "+s+"}, "+s+"]\n")
		writes(t, of("k", list(v, pairs(pair("x", v), pair("y", v)))), "k = ["+s+", {x = "+s+", y = "+s+"}]\n")
		writes(t, of("k", list(list(of("x", of("y", list(v)))))), "k = [[{x = {y = ["+s+"]}}]]\n")
		writes(t, of("k", of("x", v)), "[k]\nx = "+s+"\n")
		writes(t, of("k", list(of("x", v), of("x", v))), "[[k]]\nx = "+s+"\n\n[[k]]\nx = "+s+"\n")
		writes(t, pairs(pair("a", of("x", v)), pair("b", v), pair("c", list(of("x", list(v)))), pair("d", v)), "b = "+s+"\nd = "+s+"\n\n[a]\nx = "+s+"\n\n[[c]]\nx = ["+s+"]\n")
	}
}

// TestNilAndEmpty: nil and an empty list are one, in whatever field.
func TestNilAndEmpty(t *testing.T) {
	for _, c := range append(singles, []struct {
		v    api.Value
		text string
	}{{empty, "[]"}}...) {
		v := c.v
		v.L, v.M = []api.Value{}, []api.Pair{}
		writes(t, of("k", v), "k = "+c.text+"\n")
		v.L, v.M = make([]api.Value, 0, 3), make([]api.Pair, 0, 3)
		writes(t, of("k", v), "k = "+c.text+"\n")
	}
	none := api.Value{Kind: api.Map, L: []api.Value{}, M: []api.Pair{}}
	writes(t, none, "")
	writes(t, of("k", none), "[k]\n")
	writes(t, of("k", list(none)), "[[k]]\n")
	writes(t, of("k", list(none, whole(1))), "k = [{}, 1]\n")
}

// keys are keys, with their texts.
var keys = []struct{ key, text string }{
	// Bare ones.
	{"a", "a"}, {"Z", "Z"}, {"0", "0"}, {"9", "9"}, {"_", "_"}, {"-", "-"}, {"1-_", "1-_"}, {"--", "--"}, {"01", "01"}, {"aZ09_-", "aZ09_-"}, {"true", "true"}, {"inf", "inf"}, {"-1", "-1"}, {"1e5", "1e5"}, {"1979-05-27", "1979-05-27"}, {strings.Repeat("a", api.MaxStr), strings.Repeat("a", api.MaxStr)},
	// Others.
	{"", `""`}, {" ", `" "`}, {"a b", `"a b"`}, {" a", `" a"`}, {"a ", `"a "`}, {".", `"."`}, {"a.b", `"a.b"`}, {"1.5", `"1.5"`}, {"+1", `"+1"`}, {"07:32:00", `"07:32:00"`}, {"#", `"#"`}, {"=", `"="`}, {"[", `"["`}, {"]", `"]"`}, {"]]", `"]]"`}, {"{", `"{"`}, {"}", `"}"`}, {",", `","`}, {"'", `"'"`}, {"'a'", `"'a'"`}, {"/", `"/"`}, {"`", "\"`\""}, {"@", `"@"`}, {"^", `"^"`},
	{`"`, `"\""`}, {`""`, `"\"\""`}, {`"a"`, `"\"a\""`}, {`\`, `"\\"`}, {`\n`, `"\\n"`}, {"\b\t\n\f\r", `"\b\t\n\f\r"`}, {"\n", `"\n"`}, {"a\nb", `"a\nb"`}, {"\x00", `"\u0000"`}, {"\x1b\x1f", `"\u001b\u001f"`}, {"\x7f", `"\u007f"`}, {"\x7f\"", `"\u007f\""`},
	{"\u00e9", "\"\u00e9\""}, {"a\u00e9", "\"a\u00e9\""}, {"e\u0301", "\"e\u0301\""}, {"\u20ac", "\"\u20ac\""}, {"\uff41", "\"\uff41\""}, {"\u0661", "\"\u0661\""}, {"\u2028", "\"\u2028\""}, {"\ufeff", "\"\ufeff\""}, {"\U0001F600", "\"\U0001F600\""}, {"\U0010FFFF", "\"\U0010FFFF\""}, {strings.Repeat("a", api.MaxStr-1) + ".", `"` + strings.Repeat("a", api.MaxStr-1) + `."`},
}

// TestKeys: each key, in each place where one may stand.
func TestKeys(t *testing.T) {
	for _, c := range keys {
		k, s := c.key, c.text
		if got := tprint.Key(k); got != s {
			t.Errorf("P12.1: Key(%s): %s, want %s", short(k), short(got), short(s))
		}
		writes(t, of(k, whole(1)), s+" = 1\n")
		writes(t, of(k, bare), "["+s+"]\n")
		writes(t, of(k, of("x", whole(1))), "["+s+"]\nx = 1\n")
		writes(t, of(k, list(bare)), "[["+s+"]]\n")
		writes(t, of("x", of(k, whole(1))), "[x]\n"+s+" = 1\n")
		writes(t, of("x", of(k, bare)), "[x]\n\n[x."+s+"]\n")
		writes(t, of(k, of("x", bare)), "["+s+"]\n\n["+s+".x]\n")
		writes(t, of(k, of(k, bare)), "["+s+"]\n\n["+s+"."+s+"]\n")
		writes(t, of("x", of(k, of("y", of(k, whole(1))))), "[x]\n\n[x."+s+"]\n\n[x."+s+".y]\n"+s+" = 1\n")
		writes(t, of(k, list(of(k, list(of(k, whole(1)))))), "[["+s+"]]\n\n[["+s+"."+s+"]]\n"+s+" = 1\n")
		writes(t, of("x", list(of(k, list(bare, bare)))), "[[x]]\n\n[[x."+s+"]]\n\n[[x."+s+"]]\n")
		writes(t, of(k, list(of(k, whole(1)), whole(2))), s+" = [{"+s+" = 1}, 2]\n")
		writes(t, of("x", list(list(of(k, of(k, bare))))), "x = [[{"+s+" = {"+s+" = {}}}]]\n")
	}
}

// TestKeyOfAnything: what begins no letter is written as 65533, and no length is too great.
func TestKeyOfAnything(t *testing.T) {
	for _, c := range []struct{ key, text string }{
		{"\xff", "\"\ufffd\""}, {"a\x80b", "\"a\ufffdb\""}, {"\xe2\x82", "\"\ufffd\ufffd\""}, {"\xed\xa0\x80", "\"\ufffd\ufffd\ufffd\""}, {"\xc0\x80", "\"\ufffd\ufffd\""},
		{strings.Repeat("a", 100000), strings.Repeat("a", 100000)}, {strings.Repeat("a.", 50000), `"` + strings.Repeat("a.", 50000) + `"`},
	} {
		if got := tprint.Key(c.key); got != c.text {
			t.Errorf("P12.1: Key(%s): %s, want %s", short(c.key), short(got), short(c.text))
		}
	}
}

// around are maps in which a part stands, at the top, at each end, and deep within.
func around(v api.Value) []api.Value {
	deep := v
	for i := range api.MaxDepth - value.Deep(v) {
		if i%2 == 0 && i < api.MaxDepth-value.Deep(v)-1 {
			deep = list(whole(1), deep)
		} else {
			deep = pairs(pair("a", whole(1)), pair("k", deep))
		}
	}
	return []api.Value{
		of("k", v), pairs(pair("a", whole(1)), pair("k", v)), pairs(pair("k", v), pair("z", whole(1))), pairs(pair("a", bare), pair("b", list(bare)), pair("k", v)),
		of("k", list(v)), of("k", list(v, whole(1))), of("k", list(whole(1), v)), of("k", list(bare, v)), of("k", list(list(list(empty, v)))),
		of("k", of("x", v)), of("k", of("x", of("y", v))), pairs(pair("k", of("x", v)), pair("z", whole(1))), pairs(pair("a", whole(1)), pair("k", pairs(pair("a", whole(1)), pair("x", v)))),
		of("k", list(of("x", v))), of("k", list(bare, of("x", v))), of("k", list(of("x", v), bare)), of("k", list(of("x", list(bare, of("y", v))))),
		of("k", list(whole(1), of("x", v))), of("k", list(list(pairs(pair("a", bare), pair("x", list(v)))))), of("k", list(of("x", of("y", list(v))), whole(1))),
		deep,
	}
}

// TestMay: each part that TOML can say may be anywhere in a map.
func TestMay(t *testing.T) {
	for _, c := range singles {
		for _, v := range around(c.v) {
			if !tprint.May(v) {
				t.Errorf("P12.1: May of %s: false", told(v))
			}
			readsBack(t, v)
		}
	}
	for _, v := range append(append(around(empty), around(bare)...), around(list(bare))...) {
		if !tprint.May(v) {
			t.Errorf("P12.1: May of %s: false", told(v))
		}
		readsBack(t, v)
	}
}

// unsayable are Good values without parts that TOML cannot say.
var unsayable = func() []api.Value {
	all := []api.Value{null}
	// A num that has neither a dot nor an e.
	for _, s := range []string{"-0", "9223372036854775808", "-9223372036854775809", "18446744073709551616", "99999999999999999999", strings.Repeat("9", api.MaxDigits), "-" + strings.Repeat("9", api.MaxDigits-1)} {
		all = append(all, num(s))
	}
	for _, s := range []string{
		"whatever", "a", "x y", " ", "~", "!", strings.Repeat("9", 64),
		// Near to inf and nan.
		"Inf", "INF", "iNf", "NaN", "NAN", "Nan", "+-inf", "-+inf", "++inf", "--nan", "+-nan", "+Inf", "- inf", "+ nan", "inf ", " inf", "nan ", " nan", "inf_", "_inf", "infinity", "in", "na", "+", "-", "inf5", "naninf", "i nf", "+infinity", "-na", "inf,", "nan#",
		// Other words and numbers of TOML.
		"true", "false", "null", "0", "5", "-7", "+7", "1.5", "1e5", "0x1F", "0o7", "0b1", "1_0", `"a"`, "'a'", `""`, "[]", "[1]", "{}", "{a = 1}", "[1979-05-27]", "# x",
		// Near to a day.
		"1979-02-30", "1979-02-29", "1900-02-29", "2023-04-31", "1979-00-01", "1979-13-01", "1979-01-00", "1979-01-32", "1979-1-01", "1979-01-1", "79-05-27", "11979-05-27", "-1979-05-27", "+1979-05-27", "1979/05/27", "1979-05", "1979-05-27T", "1979-05-27 ", " 1979-05-27", "1979-05-27Z", "1979-05-27+01:00", "1979_05_27", "1979-05-27x", "19790527", "1979-05-27,", "1979-05-27 # x",
		// Near to a time.
		"24:00:00", "00:60:00", "00:00:61", "7:32:00", "07:32", "07:32:0", "07:32:00.", "07:32:00.1234567890", "07:32:00,5", "07:32:00Z", "07:32:00+01:00", "07-32-00", "-07:32:00", "07:32:00 ", " 07:32:00", "073200", "07:32:00.5x",
		// Near to both.
		"1979-05-27T24:00:00", "1979-05-27T07:32", "1979-02-30T07:32:00", "1979-05-27_07:32:00", "1979-05-27  07:32:00", "1979-05-27T 07:32:00", "1979-05-27T07:32:00+24:00", "1979-05-27T07:32:00+00:60", "1979-05-27T07:32:00+1:00", "1979-05-27T07:32:00+0100", "1979-05-27T07:32:00 Z", "1979-05-27T07:32:00ZZ", "1979-05-27T07:32:00Y", "1979-05-27T07:32:00+01:00Z", "1979-05-27T07:32:00.Z", "07:32:00 1979-05-27", "1979-05-27 1979-05-27", "1979-05-27Tinf",
	} {
		all = append(all, stamp(s))
	}
	return all
}()

// TestUnsayable: nothing is written of a map in which such a part is, wherever it stands.
func TestUnsayable(t *testing.T) {
	for _, v := range unsayable {
		if !value.Good(v) {
			t.Errorf("%s is not Good", told(v))
		}
		writesNothing(t, v)
		for _, m := range around(v) {
			if !value.Good(m) {
				t.Errorf("%s is not Good", told(m))
			}
			writesNothing(t, m)
		}
	}
}

// TestNoMap: of a value that is no map nothing is written, whatever it has.
func TestNoMap(t *testing.T) {
	writesNothing(t, null)
	for _, c := range singles {
		writesNothing(t, c.v)
		writesNothing(t, list(c.v))
	}
	for _, v := range []api.Value{empty, list(bare), list(bare, bare), list(of("a", whole(1))), list(empty), list(list(bare)), list(null)} {
		writesNothing(t, v)
	}
}

// wrong are values that are not Good.
func wrong() []api.Value {
	all := []api.Value{
		{Kind: 8}, {Kind: 9}, {Kind: -1}, {Kind: math.MaxInt64}, {Kind: math.MinInt64}, {Kind: 8, L: []api.Value{{}}}, {Kind: 1 << 32}, {Kind: 1<<32 + api.Map},
		{Kind: api.Bool, N: 2}, {Kind: api.Bool, N: -1}, {Kind: api.Bool, N: 1 << 32},
		num(""), num("5"), num("0"), num("-9223372036854775808"), num("9223372036854775807"), num("x"), num("01.5"), num("1."), num(".5"), num("+1.5"), num("1.5 "), num("1_0.5"), num("1e100001"), num("NaN"), num("inf"), num("true"), num("e"), num("."), num(`"a.b"`), num("[1.5]"), num("0." + strings.Repeat("9", api.MaxDigits-1)),
		said("\xff"), said("a\xff"), said("\xc0\x80"), said("\xe2\x82"), said("\xed\xa0\x80"), said("\xf4\x90\x80\x80"), said(strings.Repeat("x", api.MaxStr+1)),
		stamp(""), stamp("\n"), stamp("inf\n"), stamp("1979-05-27\t"), stamp("\x7f"), stamp("\u00e9"), stamp("\xff"), stamp(strings.Repeat("x", 65)),
		pairs(pair("b", yes), pair("a", yes)), pairs(pair("a", yes), pair("a", yes)), pairs(pair("a", bare), pair("a", bare)), pairs(pair("a", yes), pair("c", yes), pair("b", yes)), pairs(pair("", yes), pair("", no)), pairs(pair("2", yes), pair("10", yes)), of("\xff", yes), pairs(pair("a", yes), pair("b\x80", yes)), of(strings.Repeat("x", api.MaxStr+1), yes), of(strings.Repeat("x", api.MaxStr+1), bare),
	}
	// A field filled that the kind leaves empty.
	for _, v := range []api.Value{yes, whole(7), num("7.5"), said("s"), stamp("inf"), list(yes), of("a", yes), empty, bare} {
		n, s, l, m := v, v, v, v
		n.N, s.S, l.L, m.M = 1, "7.5", []api.Value{{Kind: api.Map}}, []api.Pair{{Key: "a", V: yes}}
		if v.Kind != api.Bool && v.Kind != api.Int {
			all = append(all, n)
		}
		if v.Kind != api.Num && v.Kind != api.Str && v.Kind != api.Stamp {
			all = append(all, s)
		}
		if v.Kind != api.List {
			all = append(all, l)
		}
		if v.Kind != api.Map {
			all = append(all, m)
		}
	}
	return all
}

// TestWrong: of what is not Good nothing is written, wherever in it the wrong part stands.
func TestWrong(t *testing.T) {
	for _, v := range wrong() {
		writesNothing(t, v)
		for _, m := range around(v) {
			writesNothing(t, m)
		}
	}
}

// TestEnds: a value that is a part of itself is too deep, and of it nothing is written.
func TestEnds(t *testing.T) {
	l := []api.Value{bare, bare}
	l[0], l[1] = of("k", list(l...)), list(l...)
	writesNothing(t, l[0])
	writesNothing(t, of("k", list(l...)))
	m := []api.Pair{pair("a", yes), pair("b", yes)}
	m[1].V = pairs(m...)
	writesNothing(t, pairs(m...))
}
