package tread_test

import (
	"fmt"
	"slices"
	"sort"
	"strings"
	"testing"
	"unicode/utf8"
	"unsafe"

	"dragoman/api"
	"dragoman/jread"
	"dragoman/tread"
	"dragoman/value"
)

var null = api.Value{}

func stamp(s string) api.Value { return api.Value{Kind: api.Stamp, S: s} }

func pair(key string, v api.Value) api.Pair { return api.Pair{Key: key, V: v} }

func pairs(m ...api.Pair) api.Value { return api.Value{Kind: api.Map, M: m} }

// short tells a head, so that what is long can be told.
func short(s string) string {
	if len(s) <= 120 {
		return fmt.Sprintf("%q", s)
	}
	return fmt.Sprintf("%q and so on, %d bytes", s[:120], len(s))
}

// told tells a value, as far as it is short.
func told(v api.Value) string { return fmt.Sprintf("%.300s", fmt.Sprintf("%+v", v)) }

// faultAt is a fault with its line and column.
func faultAt(text string, at int, e api.Errno) api.Fault {
	line := text[strings.LastIndexByte(text[:at], 10)+1 : at]
	return api.Fault{Err: e, At: at, Line: strings.Count(text[:at], "\n") + 1, Col: utf8.RuneCountInString(line) + 1}
}

// is tells that a text is just this value.
func is(t *testing.T, text string, want api.Value) {
	t.Helper()
	got, fault := tread.Parse(text)
	if fault != (api.Fault{}) || !value.Same(got, want) {
		t.Errorf("P11.1: Parse(%s): %s, %+v, want %s", short(text), told(got), fault, told(want))
	}
	if !value.Good(got) {
		t.Errorf("P11.1: Parse(%s): no Good value: %s", short(text), told(got))
	}
	if !tread.Valid(text) {
		t.Errorf("P11.1: Valid(%s): false of a text without a fault", short(text))
	}
}

// fromJSON is the value that a text of JSON says.
func fromJSON(t *testing.T, json string) api.Value {
	t.Helper()
	v, fault := jread.Parse(json)
	if fault.Err != api.OK {
		t.Fatalf("the test's own JSON is wrong: %s: %+v", short(json), fault)
	}
	return v
}

// says tells that a text is just the value that JSON says so.
func says(t *testing.T, text, json string) {
	t.Helper()
	is(t, text, fromJSON(t, json))
}

// refuses tells that a text has just this fault, and no value.
func refuses(t *testing.T, text string, at int, e api.Errno) {
	t.Helper()
	got, fault := tread.Parse(text)
	if want := faultAt(text, at, e); fault != want {
		t.Errorf("P11.2: Parse(%s): %s, %+v, want %+v", short(text), told(got), fault, want)
	}
	if !value.Same(got, null) {
		t.Errorf("P11.2: Parse(%s): %s beside the fault %+v", short(text), told(got), fault)
	}
	if tread.Valid(text) {
		t.Errorf("P11.2: Valid(%s): true of a text with a fault", short(text))
	}
}

// right are texts, and in JSON what they say.
var right = []struct{ text, json string }{
	// The chapter's example.
	{"a.b = 1", `{"a":{"b":1}}`},
	// Nothing: empty texts, empty lines, remarks.
	{"", "{}"}, {" ", "{}"}, {"\t", "{}"}, {"\n", "{}"}, {"\r\n", "{}"}, {"\n\n\r\n\n", "{}"}, {" \n\t\n \t \r\n", "{}"}, {"#", "{}"}, {"# x", "{}"}, {"# x\n", "{}"}, {"# x\r\n", "{}"}, {"#\n#\n  # x\n\t#y", "{}"}, {"# a = 1\n#[b]", "{}"}, {"#\x00\x01\x7f\r\x1f\n", "{}"}, {"# \u20ac\ufffd\U0001F600", "{}"}, {"# \r x\r", "{}"}, {"##", "{}"},
	// Pairs of each kind of value.
	{"a = 1", `{"a":1}`}, {"a = -0", `{"a":0}`}, {"a = +7", `{"a":7}`}, {"a = 0x1F", `{"a":31}`}, {"a = 0o17", `{"a":15}`}, {"a = 0b11", `{"a":3}`}, {"a = 1_000", `{"a":1000}`}, {"a = 9223372036854775807", `{"a":9223372036854775807}`}, {"a = -9223372036854775808", `{"a":-9223372036854775808}`},
	{"a = 1.0", `{"a":1.0}`}, {"a = -0.0", `{"a":-0.0}`}, {"a = 1e2", `{"a":1e2}`}, {"a = +1_0.5E+07", `{"a":10.5E+07}`}, {"a = true", `{"a":true}`}, {"a = false", `{"a":false}`}, {"a = ''", `{"a":""}`}, {`a = ""`, `{"a":""}`}, {`a = "b"`, `{"a":"b"}`}, {"a = 'b'", `{"a":"b"}`}, {`a = "\"\\\b\t\n\f\r\e\u20ac\U0001F600"`, `{"a":"\"\\\b\t\n\f\r\u001b\u20ac\ud83d\ude00"}`}, {"a = '\\q\"'", `{"a":"\\q\""}`}, {"a = '# = [ ] { } , .'", `{"a":"# = [ ] { } , ."}`}, {"a = \"\u20ac\ufffd\"", "{\"a\":\"\u20ac\ufffd\"}"},
	{"a = '''\nx\ny'''\nb = 2", `{"a":"x\ny","b":2}`}, {"a = \"\"\"\r\nx\\\n\n  y\n[b]\n\"\"\"\r\nb = 2", `{"a":"xy\n[b]\n","b":2}`}, {`a = """b"""""`, `{"a":"b\"\""}`}, {"a = '''''' # x", `{"a":""}`},
	{"a = []", `{"a":[]}`}, {"a = {}", `{"a":{}}`},
	// What may stand about a line's parts.
	{"a=1", `{"a":1}`}, {"a =1", `{"a":1}`}, {"a= 1", `{"a":1}`}, {"\ta\t=\t1\t", `{"a":1}`}, {"  a \t = \t 1 \t ", `{"a":1}`}, {"a = 1#x", `{"a":1}`}, {"a = 1 # x", `{"a":1}`}, {"a = 1\t#x\n#\nb=2#", `{"a":1,"b":2}`}, {"a = 1\n", `{"a":1}`}, {"a = 1\r\n", `{"a":1}`}, {"a = 1 \r\nb = 2 \t\r\n\r\nc = 3", `{"a":1,"b":2,"c":3}`}, {"\n\n a = 1\n\n\tb = 2\n\n", `{"a":1,"b":2}`}, {"a = '#' # '", `{"a":"#"}`}, {"a=[]#", `{"a":[]}`}, {"a={}#", `{"a":{}}`}, {"[a]#", `{"a":{}}`}, {"[[a]]#", `{"a":[{}]}`}, {"[a] \t# x\r\nb = 1", `{"a":{"b":1}}`}, {"[[a]] \t# x\r\nb = 1", `{"a":[{"b":1}]}`}, {" [a]\n\t[[b]]\t", `{"a":{},"b":[{}]}`},
	// Keys.
	{"1 = 2\ntrue = 3\n-_- = 4\n1979-05-27 = 5\ninf = 6", `{"-_-":4,"1":2,"1979-05-27":5,"inf":6,"true":3}`}, {"'' = 1", `{"":1}`}, {`"" = 1`, `{"":1}`}, {"'a b' = 1", `{"a b":1}`}, {`"a.b" = 1`, `{"a.b":1}`}, {`"\u20ac" = 1`, `{"\u20ac":1}`}, {"'\\u20ac' = 1", `{"\\u20ac":1}`}, {"\"\u20ac\" = 1", `{"\u20ac":1}`}, {`"=" = 1`, `{"=":1}`}, {"'#' = 1", `{"#":1}`}, {"'[a]' = 1", `{"[a]":1}`}, {`"\n" = 1`, `{"\n":1}`}, {"a = 1\nA = 2", `{"A":2,"a":1}`}, {"'a' = 1\n'a ' = 2", `{"a":1,"a ":2}`},
	// Keys by their bytes, whatever the order of the lines.
	{"b = 1\na = 2\naa = 3\nB = 4\n'' = 5", `{"":5,"B":4,"a":2,"aa":3,"b":1}`}, {"10 = 1\n9 = 2", `{"10":1,"9":2}`}, {"'\U0001F600' = 1\n'\uffff' = 2\nz = 3", `{"z":3,"\uffff":2,"\ud83d\ude00":1}`},
	// Dotted keys.
	{"a.b.c.d = 1", `{"a":{"b":{"c":{"d":1}}}}`}, {" a . 'b c' \t.\t\"d\" = 1", `{"a":{"b c":{"d":1}}}`}, {"3.14 = 1", `{"3":{"14":1}}`}, {"''.\"\" = 1", `{"":{"":1}}`}, {"a.a.a = 1", `{"a":{"a":{"a":1}}}`}, {"a.b = 1\na.c = 2\na.d.e = 3\na.d.f = 4", `{"a":{"b":1,"c":2,"d":{"e":3,"f":4}}}`}, {"a.b.c = 1\nb.a = 2\na.d = 3\na.b.e = 4", `{"a":{"b":{"c":1,"e":4},"d":3},"b":{"a":2}}`}, {"a.b = 1\n'a'.\"c\" = 2\n\"\\u0061\".d = 3", `{"a":{"b":1,"c":2,"d":3}}`}, {"a.b = [1]\na.c = {}", `{"a":{"b":[1],"c":{}}}`}, {"a.b = 1\n'a.b' = 2", `{"a":{"b":1},"a.b":2}`},
	// Tables, with pairs ahead of them and in them.
	{"[a]", `{"a":{}}`}, {"[ a ]", `{"a":{}}`}, {"[\ta\t]", `{"a":{}}`}, {"[a.b]", `{"a":{"b":{}}}`}, {"[ a . 'b.c' . \"\" ]", `{"a":{"b.c":{"":{}}}}`}, {"['']", `{"":{}}`}, {"[1]\n[2]", `{"1":{},"2":{}}`}, {"[']']\n[\"[\"]\n['#']", `{"#":{},"[":{},"]":{}}`}, {"a = 1\n[b]\na = 2\n[c]\na = 3", `{"a":1,"b":{"a":2},"c":{"a":3}}`}, {"[b]\nx = 1\n[a]\nx = 2", `{"a":{"x":2},"b":{"x":1}}`}, {"[a]\nb = 1\n[a.c]\nd = 2", `{"a":{"b":1,"c":{"d":2}}}`}, {"[a.b.c]\nx = 1\n[a]\ny = 2\n[a.b]\nz = 3", `{"a":{"b":{"c":{"x":1},"z":3},"y":2}}`}, {"[a]\nb.c = 1\nb.d = 2\n[e]\nb.c = 3", `{"a":{"b":{"c":1,"d":2}},"e":{"b":{"c":3}}}`}, {"[a]\n[a.b]\n[a.b.c]\n[a.d]", `{"a":{"b":{"c":{}},"d":{}}}`}, {"[a.a]\n[a]\n[a.a.a]", `{"a":{"a":{"a":{}}}}`}, {"[a]\n\n\n[b] # x\n# y\n  c = 1", `{"a":{},"b":{"c":1}}`},
	// Lists of headers' tables.
	{"[[a]]", `{"a":[{}]}`}, {"[[ a ]]", `{"a":[{}]}`}, {"[[\ta\t.\tb\t]]", `{"a":{"b":[{}]}}`}, {"[[a]]\n[[a]]\n[[a]]", `{"a":[{},{},{}]}`}, {"[[a]]\nx = 1\n[[a]]\nx = 2\n[[a]]\ny.z = 3", `{"a":[{"x":1},{"x":2},{"y":{"z":3}}]}`}, {"x = 0\n[[a]]\nx = 1\n[b]\nx = 2\n[[a]]\nx = 3", `{"a":[{"x":1},{"x":3}],"b":{"x":2},"x":0}`}, {"[[a]]\nx = 1\n[[a]]\n[a.b]\ny = 2\n[[a.c]]\n[[a.c]]\nz = 3", `{"a":[{"x":1},{"b":{"y":2},"c":[{},{"z":3}]}]}`}, {"[[a.b]]\n[a]\nx = 1\n[[a.b]]\ny = 2", `{"a":{"b":[{},{"y":2}],"x":1}}`}, {"[[a]]\n[[a.b]]\n[[a.b.c]]\nx = 1\n[[a.b]]\n[[a.b.c]]\n[[a]]\n[[a.b]]\ny = 2", `{"a":[{"b":[{"c":[{"x":1}]},{"c":[{}]}]},{"b":[{"y":2}]}]}`}, {"[[a]]\n[a.b.c]\n[a.b]\nx = 1\n[[a]]\n[a.b]\n[a.b.c]", `{"a":[{"b":{"c":{},"x":1}},{"b":{"c":{}}}]}`}, {"[['']]\n[['']]", `{"":[{},{}]}`}, {"[a]\n[[a.b]]\n[c]\n[[a.b]]", `{"a":{"b":[{},{}]},"c":{}}`},
	// Lists.
	{"a = [ ]", `{"a":[]}`}, {"a = [\t]", `{"a":[]}`}, {"a = [\n]", `{"a":[]}`}, {"a = [\r\n\n # x\n]", `{"a":[]}`}, {"a = [1]", `{"a":[1]}`}, {"a = [1,]", `{"a":[1]}`}, {"a = [1 , ]", `{"a":[1]}`}, {"a = [1,2]", `{"a":[1,2]}`}, {"a = [2, 1, 2,]", `{"a":[2,1,2]}`}, {"a = [[]]", `{"a":[[]]}`}, {"a = [[],[[]],]", `{"a":[[],[[]]]}`}, {"a = [1, [2,], # x\n 3,\n]", `{"a":[1,[2],3]}`}, {"a = [\n  1, # one, ]\n  # two\n\n  'x' # ,\r\n  , true\r\n\t,\n]\nb = 1", `{"a":[1,"x",true],"b":1}`}, {"a = [1#\n,#\n2#\n]", `{"a":[1,2]}`}, {"a = [1, 'a', 1.5, true, {}, []]", `{"a":[1,"a",1.5,true,{},[]]}`}, {"a = [']', \"[\", ',']", `{"a":["]","[",","]}`}, {"a = ['''\n]\n''',\n]", `{"a":["]\n"]}`}, {"a = [{}, {b = 1}, {b = 2},\n{}]", `{"a":[{},{"b":1},{"b":2},{}]}`}, {"a = [#]\n]", `{"a":[]}`}, {"a = [\n1]\n[b]\na = [\n]", `{"a":[1],"b":{"a":[]}}`}, {"a = [\n] # x\nb = 2", `{"a":[],"b":2}`},
	// Inline tables.
	{"a = { }", `{"a":{}}`}, {"a = {\t}", `{"a":{}}`}, {"a = {b=1}", `{"a":{"b":1}}`}, {"a = { b = 1 }", `{"a":{"b":1}}`}, {"a = {b = 1, c = 2}", `{"a":{"b":1,"c":2}}`}, {"a = {c = 1,b = 2 \t,\t a = 3}", `{"a":{"a":3,"b":2,"c":1}}`}, {"a = {b.c = 1, b.d = 2, e . 'f' = 3}", `{"a":{"b":{"c":1,"d":2},"e":{"f":3}}}`}, {"a = {b = 1, c.d = 2, c.e = [ ] }", `{"a":{"b":1,"c":{"d":2,"e":[]}}}`}, {"a = {b = {c = {d = {}}}}", `{"a":{"b":{"c":{"d":{}}}}}`}, {"a = {a = {a = 1}, b = {a = 1}}", `{"a":{"a":{"a":1},"b":{"a":1}}}`}, {"a = {b = [{c = 1}, {c = 2}], '' = ''}", `{"a":{"":"","b":[{"c":1},{"c":2}]}}`}, {"a = {'}' = '}', \",\" = ','} # }", `{"a":{",":",","}":"}"}}`}, {"a = {1 = 2, true = false}", `{"a":{"1":2,"true":false}}`}, {"a.b = {c = 1}\na.d = {c = 2}", `{"a":{"b":{"c":1},"d":{"c":2}}}`}, {"[a]\nb = {c = 1}\n[d]\nb = {c = 1}", `{"a":{"b":{"c":1}},"d":{"b":{"c":1}}}`},
	// The table itself goes over no line's end, but a list or a string in it may.
	{"a = {b = [\n1, # x\n2\n], c = '''\n}\n'''}", `{"a":{"b":[1,2],"c":"}\n"}}`},
	// The letter that stands for a byte that begins none may be in a text.
	{"'\ufffd' = '\ufffd' # \ufffd", "{\"\ufffd\":\"\ufffd\"}"},
}

func TestValues(t *testing.T) {
	for _, c := range right {
		says(t, c.text, c.json)
		// Empty lines and remarks ahead of all and behind all alter nothing.
		says(t, "\n # x\r\n\t\n"+c.text+"\n\n \t# y", c.json)
		// One pair ahead of all is one name more.
		v := fromJSON(t, c.json)
		v.M = append(v.M, pair("~~", api.Value{Kind: api.Int, N: 5}))
		sort.Slice(v.M, func(i, j int) bool { return v.M[i].Key < v.M[j].Key })
		is(t, "'~~' = 5\n"+c.text, v)
		// Line ends of two bytes are as good, but within strings of many lines.
		if !strings.Contains(c.text, "'''") && !strings.Contains(c.text, `"""`) {
			says(t, strings.ReplaceAll(strings.ReplaceAll(c.text, "\r\n", "\n"), "\n", "\r\n"), c.json)
		}
	}
}

// TestStamps: values that JSON has no words for.
func TestStamps(t *testing.T) {
	for _, s := range []string{"1979-05-27", "07:32:00", "07:32:00.999999999", "1979-05-27T07:32:00", "1979-05-27 07:32:00", "1979-05-27t07:32:00Z", "1979-05-27 07:32:00.5-07:00", "2024-02-29", "inf", "-inf", "+inf", "nan", "-nan", "+nan"} {
		is(t, "a = "+s, pairs(pair("a", stamp(s))))
		is(t, "a = "+s+" # x\n", pairs(pair("a", stamp(s))))
		is(t, "a="+s+"\r\n", pairs(pair("a", stamp(s))))
		is(t, "a = ["+s+",\n"+s+" , "+s+"]", pairs(pair("a", api.Value{Kind: api.List, L: []api.Value{stamp(s), stamp(s), stamp(s)}})))
		is(t, "a = {b="+s+",c = "+s+" }", pairs(pair("a", pairs(pair("b", stamp(s)), pair("c", stamp(s))))))
	}
	// A day with a blank behind it, and no time.
	is(t, "a = 1979-05-27 ", pairs(pair("a", stamp("1979-05-27"))))
	refuses(t, "a = 1979-05-27 7", 15, api.ESYNTAX)
	refuses(t, "a = 1979-05-27  07:32:00", 16, api.ESYNTAX)
	refuses(t, "a = 1979-02-29", 4, api.ESYNTAX)
	refuses(t, "a = [1979-05-27 7]", 16, api.ESYNTAX)
}

// orders are all orders of some texts.
func orders(parts []string) [][]string {
	if len(parts) == 0 {
		return [][]string{nil}
	}
	out := [][]string{}
	for i := range parts {
		for _, rest := range orders(slices.Delete(slices.Clone(parts), i, i+1)) {
			out = append(out, append([]string{parts[i]}, rest...))
		}
	}
	return out
}

// TestOrders: pairs may stand in any order, and so may tables; values of a list may not.
func TestOrders(t *testing.T) {
	for _, order := range orders([]string{"'' = 0", "B = [2, 1]", "a = 1", "b.x = true", "b.y = false"}) {
		says(t, strings.Join(order, "\n"), `{"":0,"B":[2,1],"a":1,"b":{"x":true,"y":false}}`)
		says(t, "t = {"+strings.Join(order, ", ")+"}", `{"t":{"":0,"B":[2,1],"a":1,"b":{"x":true,"y":false}}}`)
		says(t, "[t]\n"+strings.Join(order, "\n"), `{"t":{"":0,"B":[2,1],"a":1,"b":{"x":true,"y":false}}}`)
	}
	for _, order := range orders([]string{"[a]\nx = 1\n", "[a.b]\nx = 2\n", "[a.b.c]\nx = 3\n", "[[a.d]]\nx = 4\n", "[b]\nx = 5\n"}) {
		says(t, strings.Join(order, ""), `{"a":{"b":{"c":{"x":3},"x":2},"d":[{"x":4}],"x":1},"b":{"x":5}}`)
	}
	for _, order := range orders([]string{"1", "2", "3"}) {
		says(t, "a = ["+strings.Join(order, ", ")+"]", `{"a":[`+strings.Join(order, ",")+`]}`)
		rows, list := "", []string{}
		for _, digit := range order {
			rows += "[[a]]\nx = " + digit + "\n"
			list = append(list, `{"x":`+digit+`}`)
		}
		says(t, rows, `{"a":[`+strings.Join(list, ",")+`]}`)
	}
}

// wrong are texts that have a fault just behind what is right of them.
var wrong = []struct {
	right, rest string
	err         api.Errno
}{
	// A line that is neither a pair nor a header.
	{"a", "", api.ESYNTAX}, {"a", "\n", api.ESYNTAX}, {"a ", "", api.ESYNTAX}, {"a ", "1", api.ESYNTAX}, {"a ", "b = 1", api.ESYNTAX}, {"a ", "# x", api.ESYNTAX}, {"a ", ": 1", api.ESYNTAX}, {"a", "\r\n= 1", api.ESYNTAX}, {"a", ",", api.ESYNTAX}, {"a", "[0] = 1", api.ESYNTAX}, {"a", "+b = 1", api.ESYNTAX}, {"a.b", "", api.ESYNTAX}, {"'a'", "'b' = 1", api.ESYNTAX}, {"", "]", api.ESYNTAX}, {"", "{}", api.ESYNTAX}, {"", "{a = 1}", api.ESYNTAX}, {"", ",", api.ESYNTAX}, {"", "\x00", api.ESYNTAX}, {"", "\x0b", api.ESYNTAX}, {"", "\ufeffa = 1", api.ESYNTAX}, {"", "\u00e9 = 1", api.ESYNTAX}, {"", "\u00a0a = 1", api.ESYNTAX}, {"", "// x", api.ESYNTAX}, {"", "; x", api.ESYNTAX}, {"", "!a = 1", api.ESYNTAX},
	// A key that is not there, or is wrong.
	{"", "= 1", api.ESYNTAX}, {"", ".a = 1", api.ESYNTAX}, {"a.", "= 1", api.ESYNTAX}, {"a. ", "= 1", api.ESYNTAX}, {"a.", ".b = 1", api.ESYNTAX}, {"a . ", "", api.ESYNTAX}, {"a.", "\nb = 1", api.ESYNTAX}, {"\"a", "\n\" = 1", api.ESYNTAX}, {"'a", "", api.ESYNTAX}, {`"a`, `\q" = 1`, api.ESYNTAX}, {"", "'''a''' = 1", api.ESYNTAX}, {"a.", `"""b""" = 1`, api.ESYNTAX}, {"a.", "# x", api.ESYNTAX}, {"a.", "{} = 1", api.ESYNTAX},
	// A value that is not there, or is wrong.
	{"a =", "", api.ESYNTAX}, {"a = ", "", api.ESYNTAX}, {"a = ", "\n", api.ESYNTAX}, {"a = ", "\n1", api.ESYNTAX}, {"a = ", "\r\n1", api.ESYNTAX}, {"a = ", "# x", api.ESYNTAX}, {"a =", "= 1", api.ESYNTAX}, {"a = ", ", 1", api.ESYNTAX}, {"a = ", "]", api.ESYNTAX}, {"a = ", "}", api.ESYNTAX}, {"a = ", "tru", api.ESYNTAX}, {"a = ", "trues", api.ESYNTAX}, {"a = ", "True", api.ESYNTAX}, {"a = ", "null", api.ESYNTAX}, {"a = ", "b", api.ESYNTAX}, {"a = ", "01", api.ESYNTAX}, {"a = ", "1.", api.ESYNTAX}, {"a = ", ".5", api.ESYNTAX}, {"a = ", "1__0", api.ESYNTAX}, {"a = ", "0x", api.ESYNTAX}, {"a = ", "++1", api.ESYNTAX}, {"a = ", "2026-13-01", api.ESYNTAX}, {"a = ", "24:00:00", api.ESYNTAX}, {"a = ", "\u20ac", api.ESYNTAX}, {"a = ", "\x00", api.ESYNTAX}, {"a = 'x", "", api.ESYNTAX}, {"a = 'x", "\n'", api.ESYNTAX}, {`a = "`, `\q"`, api.ESYNTAX}, {`a = "\t`, `\u12"`, api.ESYNTAX}, {`a = """x` + "\n", "\x01\"\"\"", api.ESYNTAX}, {"a = '''x\n''", "", api.ESYNTAX}, {"a = ", "99999999999999999999", api.ERANGE}, {"a = ", "9223372036854775808", api.ERANGE}, {"a = ", "1e100001", api.ERANGE}, {"a = ", strings.Repeat("1", api.MaxDigits) + ".5", api.ERANGE},
	// What may not stand behind a pair on its line.
	{"a = 1 ", "b = 2", api.ESYNTAX}, {"a = 1 ", "x\n", api.ESYNTAX}, {"a = 1", "\x00", api.ESYNTAX}, {"a = 1", ",", api.ESYNTAX}, {"a = 1 ", ",", api.ESYNTAX}, {"a = 1", "]", api.ESYNTAX}, {"a = 1", "}", api.ESYNTAX}, {"a = 1", "[]", api.ESYNTAX}, {"a = 1 ", "1", api.ESYNTAX}, {"a = 1 ", "= 2", api.ESYNTAX}, {"a = 'x'", "y", api.ESYNTAX}, {"a = 'x' ", "'y'", api.ESYNTAX}, {"a = ''''''''", "'", api.ESYNTAX}, {"a = []", "]", api.ESYNTAX}, {"a = [] ", "[b]", api.ESYNTAX}, {"a = {}", "}", api.ESYNTAX}, {"a = {} ", "b = 1", api.ESYNTAX}, {"a = true", "'x'", api.ESYNTAX}, {"a = 1 \t", "\x0c", api.ESYNTAX}, {"a = 1", "\u00a0", api.ESYNTAX}, {"a = [\n1\n] ", "b", api.ESYNTAX}, {"a = '''\n''' ", "b = 1", api.ESYNTAX},
	// Headers without form.
	{"[", "", api.ESYNTAX}, {"[", "\n", api.ESYNTAX}, {"[ ", "", api.ESYNTAX}, {"[", "]", api.ESYNTAX}, {"[ ", "]", api.ESYNTAX}, {"[a", "", api.ESYNTAX}, {"[a ", "", api.ESYNTAX}, {"[a", "\n]", api.ESYNTAX}, {"[", "\na]", api.ESYNTAX}, {"[a.", "]", api.ESYNTAX}, {"[", ".a]", api.ESYNTAX}, {"[a.", ".b]", api.ESYNTAX}, {"[a ", "b]", api.ESYNTAX}, {"[a", ",b]", api.ESYNTAX}, {"[a ", "# x]", api.ESYNTAX}, {"[a ", "= 1]", api.ESYNTAX}, {"[a", "}", api.ESYNTAX}, {"['a]", "", api.ESYNTAX}, {"[", "'''a''']", api.ESYNTAX}, {"[ ", "[a]]", api.ESYNTAX}, {"[\t", "[a]]", api.ESYNTAX}, {"[", "{}]", api.ESYNTAX},
	{"[[", "", api.ESYNTAX}, {"[[", "]]", api.ESYNTAX}, {"[[", "]", api.ESYNTAX}, {"[[a", "", api.ESYNTAX}, {"[[a]", "", api.ESYNTAX}, {"[[a]", "\n]", api.ESYNTAX}, {"[[a]", " ]", api.ESYNTAX}, {"[[a]", "x]", api.ESYNTAX}, {"[[a]", "\t]", api.ESYNTAX}, {"[[a]", "# x", api.ESYNTAX}, {"[[a.", "]]", api.ESYNTAX}, {"[[a ", "b]]", api.ESYNTAX}, {"[[", "[a]]]", api.ESYNTAX}, {"[[", "\na]]", api.ESYNTAX}, {"[[a", "\n]]", api.ESYNTAX},
	// What may not stand behind a header on its line.
	{"[a] ", "x", api.ESYNTAX}, {"[a]", "]", api.ESYNTAX}, {"[a]", "b = 1", api.ESYNTAX}, {"[a] ", "b = 1", api.ESYNTAX}, {"[a] ", "[b]", api.ESYNTAX}, {"[a] ", "= 1", api.ESYNTAX}, {"[a]", ",", api.ESYNTAX}, {"[a]", "\x00", api.ESYNTAX}, {"[[a]]", "]", api.ESYNTAX}, {"[[a]] ", "x", api.ESYNTAX}, {"[[a]] ", "b = 1", api.ESYNTAX}, {"[[a]]", "[[a]]", api.ESYNTAX}, {"[1", ", 2]", api.ESYNTAX},
	// Lists without form.
	{"a = [", "", api.ESYNTAX}, {"a = [\n", "", api.ESYNTAX}, {"a = [1", "", api.ESYNTAX}, {"a = [1 # x", "", api.ESYNTAX}, {"a = [1,", "", api.ESYNTAX}, {"a = [1,\n", "", api.ESYNTAX}, {"a = [[]", "", api.ESYNTAX}, {"a = [[", "", api.ESYNTAX}, {"a = [1 ", "2]", api.ESYNTAX}, {"a = [1\n", "2]", api.ESYNTAX}, {"a = [1,", ",2]", api.ESYNTAX}, {"a = [1,", ",]", api.ESYNTAX}, {"a = [1, # x\n ", ",]", api.ESYNTAX}, {"a = [", ",]", api.ESYNTAX}, {"a = [", ",1]", api.ESYNTAX}, {"a = [", "}", api.ESYNTAX}, {"a = [1", "}", api.ESYNTAX}, {"a = [1,", "}", api.ESYNTAX}, {"a = [", "b = 1]", api.ESYNTAX}, {"a = [1", "= 2]", api.ESYNTAX}, {"a = [", "b]", api.ESYNTAX}, {"a = [1, ", "b]", api.ESYNTAX}, {"a = [\n", "b = 1", api.ESYNTAX}, {"a = [1,\n", "b = 1", api.ESYNTAX}, {"a = [1", "[2]]", api.ESYNTAX}, {"a = ['x'", "'y']", api.ESYNTAX}, {"a = ['x", "\n']", api.ESYNTAX}, {"a = [", "99999999999999999999]", api.ERANGE}, {"a = [1]", "]", api.ESYNTAX}, {"a = [1, [2", "", api.ESYNTAX}, {"a = [#]", "", api.ESYNTAX}, {"a = [\n[", "b]\n", api.ESYNTAX},
	// Inline tables without form: one line, and no , at the end.
	{"a = {", "", api.ESYNTAX}, {"a = {b", "", api.ESYNTAX}, {"a = {b =", "", api.ESYNTAX}, {"a = {b = 1", "", api.ESYNTAX}, {"a = {b = 1,", "", api.ESYNTAX}, {"a = {b", "}", api.ESYNTAX}, {"a = {b =", "}", api.ESYNTAX}, {"a = {b = ", "}", api.ESYNTAX}, {"a = {", ",}", api.ESYNTAX}, {"a = {", ",b = 1}", api.ESYNTAX}, {"a = {b = 1,", "}", api.ESYNTAX}, {"a = {b = 1 , ", "}", api.ESYNTAX}, {"a = {b = 1,", ",c = 2}", api.ESYNTAX}, {"a = {b = 1 ", "c = 2}", api.ESYNTAX}, {"a = {b = 1", "]", api.ESYNTAX}, {"a = {", "]", api.ESYNTAX}, {"a = {", "= 1}", api.ESYNTAX}, {"a = {b.", "= 1}", api.ESYNTAX}, {"a = {", "{}}", api.ESYNTAX}, {"a = {", "[b]}", api.ESYNTAX}, {"a = {b ", ": 1}", api.ESYNTAX}, {"a = {b = 1", ";}", api.ESYNTAX}, {"a = {b = ", "tru}", api.ESYNTAX}, {"a = {b = ", "99999999999999999999}", api.ERANGE}, {"a = {b = {c = 1,", "}}", api.ESYNTAX}, {"a = [{b = 1,", "}]", api.ESYNTAX}, {"a = {b = [1", "}", api.ESYNTAX},
	{"a = {", "\n}", api.ESYNTAX}, {"a = {", "\r\n}", api.ESYNTAX}, {"a = { ", "\nb = 1}", api.ESYNTAX}, {"a = {b", "\n= 1}", api.ESYNTAX}, {"a = {b = ", "\n1}", api.ESYNTAX}, {"a = {b = 1", "\n}", api.ESYNTAX}, {"a = {b = 1 ", "\r\n}", api.ESYNTAX}, {"a = {b = 1", "\n, c = 2}", api.ESYNTAX}, {"a = {b = 1, ", "\nc = 2}", api.ESYNTAX}, {"a = {b = 1 ", "# x\n}", api.ESYNTAX}, {"a = {", "# x}", api.ESYNTAX}, {"a = {b = 1, ", "# x\n}", api.ESYNTAX}, {"a = [{b = 1", "\n}]", api.ESYNTAX}, {"a = [\n{", "\n}]", api.ESYNTAX}, {"a = {b = [\n]", "\n}", api.ESYNTAX}, {"a = {b = {}", "\n}", api.ESYNTAX},
	// A 13 without a 10 behind it, wherever it stands but in a remark.
	{"", "\r", api.ESYNTAX}, {"", "\ra = 1", api.ESYNTAX}, {" ", "\r\r\n", api.ESYNTAX}, {"a", "\r= 1", api.ESYNTAX}, {"a =", "\r1", api.ESYNTAX}, {"a = 1", "\r", api.ESYNTAX}, {"a = 1 ", "\r x", api.ESYNTAX}, {"a = 1", "\rb = 2", api.ESYNTAX}, {"a = 1", "\r\r\n", api.ESYNTAX}, {"a = 1", "\r# x\n", api.ESYNTAX}, {"[a]", "\r", api.ESYNTAX}, {"[a]", "\rb = 1", api.ESYNTAX}, {"[a", "\r]", api.ESYNTAX}, {"[", "\ra]", api.ESYNTAX}, {"[[a]", "\r]", api.ESYNTAX}, {"[[a]]", "\r", api.ESYNTAX}, {"a.", "\rb = 1", api.ESYNTAX}, {"a = [", "\r]", api.ESYNTAX}, {"a = [1", "\r]", api.ESYNTAX}, {"a = [1,", "\r2]", api.ESYNTAX}, {"a = {", "\r}", api.ESYNTAX}, {"a = {b = 1", "\r}", api.ESYNTAX}, {"a = '''x", "\ry'''", api.ESYNTAX}, {"a = '", "\r'", api.ESYNTAX}, {"# x\r\n", "\r", api.ESYNTAX}, {"# \r\n", "\r\r\n", api.ESYNTAX},
	// The names of the chapter's example, and of two faults the first.
	{"a = 1\n", "a = 2", api.ETWICE}, {"a = [1 ", "2\nb = 99999999999999999999", api.ESYNTAX}, {"a = ", "99999999999999999999\nb", api.ERANGE}, {"a = {b = 1, ", "b = 2}\nc", api.ETWICE}, {"a ", "b\n[", api.ESYNTAX},
}

// aheads stand ahead of a wrong text, and are right.
var aheads = []string{"", "\n", "# x\r\n\t ", "x = 1\n", "'\u20ac' = '\u20ac' # \u20ac\n ", "x.y = [\n1, # \U0001F600\n]\n", "[x]\n", "[x]\na = 1\n[y] # x\r\n\t", "[[x]]\na = 1\n[[x]]\n  "}

func TestFaults(t *testing.T) {
	for _, c := range wrong {
		for _, ahead := range aheads {
			refuses(t, ahead+c.right+c.rest, len(ahead)+len(c.right), c.err)
		}
		// What a list or an inline table may hold is as wrong there.
		if rest, isPair := strings.CutPrefix(c.right, "a = "); isPair && !strings.ContainsAny(c.rest, "\r\n,]}#") && c.rest != "" && c.err != api.ETWICE {
			refuses(t, "a = [0,\n"+rest+c.rest, len("a = [0,\n")+len(rest), c.err)
			refuses(t, "a = {a = [], b="+rest+c.rest, len("a = {a = [], b=")+len(rest), c.err)
		}
	}
	// Places with their lines and columns written out.
	for text, want := range map[string]api.Fault{
		"a = 1\na = 2":                  {Err: api.ETWICE, At: 6, Line: 2, Col: 1},
		"a":                             {Err: api.ESYNTAX, At: 1, Line: 1, Col: 2},
		"\r\n[a":                        {Err: api.ESYNTAX, At: 4, Line: 2, Col: 3},
		"'\u20ac\u20ac' = x":            {Err: api.ESYNTAX, At: 11, Line: 1, Col: 8},
		"a = [\n1,\n":                   {Err: api.ESYNTAX, At: 9, Line: 3, Col: 1},
		"a = '''\n\u20ac''' b":          {Err: api.ESYNTAX, At: 15, Line: 2, Col: 6},
		"[a]\n[[b]]\n  [a.b]\n\t[ a.b]": {Err: api.ETWICE, At: 21, Line: 4, Col: 4},
		"a = 1\n  [ a.b ]":              {Err: api.ECLASH, At: 10, Line: 2, Col: 5},
		"# \u20ac\na = \"\xff\"":        {Err: api.EUTF, At: 11, Line: 2, Col: 6},
	} {
		if got, fault := tread.Parse(text); fault != want || !value.Same(got, null) {
			t.Errorf("P11.2: Parse(%q): %s, %+v, want %+v", text, told(got), fault, want)
		}
	}
}

// TestEveryByte: which bytes may stand at a line's beginning, behind a pair, behind a header, about
// a key, about a value, in a list, in an inline table and in a remark.
func TestEveryByte(t *testing.T) {
	const (
		blanks  = " \t"
		digits  = "0123456789"
		bare    = "abcdefghijklmnopqrstuvwxyzABCDEFGHIJKLMNOPQRSTUVWXYZ_-" + digits
		behind  = blanks + "\n#"
		anyLine = behind + "\r"
	)
	for _, c := range []struct{ head, tail, may string }{
		{"a = 'x'", "", behind}, {"[a]", "", behind}, {"[[a]]", "", behind}, {"a = 'x'", "\n", anyLine}, {"[a]", "\n", anyLine}, {"[[a]]", "\n", anyLine}, {"a = [1]", "", behind}, {"a = {b = 1}", "", behind}, {"a = true", "", behind},
		{"", "a = 1", behind + bare}, {"", "\na = 1", anyLine}, {"", "", behind}, {"a = 1\n", "", behind},
		{"[", "a]", blanks + bare}, {"[b", "]", blanks + bare}, {"[[b", "]]", blanks + bare}, {"[[", "b]]", blanks + bare}, {"'a'", "= 1", blanks}, {"'a'", "'b' = 1", "."}, {"a =", "'x'", blanks}, {"a = ", "", digits}, {"a", "1", "="},
		{"a = {", "}", blanks}, {"a = {b = 'x'", "}", blanks}, {"a = {", "b = 1}", blanks + bare}, {"a = {b =", "'x'}", blanks}, {"a = {b = 1", "c = 2}", ","}, {"a = {'b'", "= 1}", blanks}, {"a = {b = [1", "]}", blanks + "\n," + digits},
		{"a = ['x'", "]", blanks + "\n,"}, {"a = ['x'", "\n]", anyLine + ","}, {"a = [", "]", blanks + "\n" + digits}, {"a = [", "\n]", anyLine + digits}, {"a = ['x',", "'y']", blanks + "\n"}, {"a = ['x'", "'y']", ","},
	} {
		for b := range 128 {
			text := c.head + string(rune(b)) + c.tail
			if may := strings.ContainsRune(c.may, rune(b)); tread.Valid(text) != may {
				t.Errorf("P11.1: Valid(%q): %v", text, !may)
			}
			checkText(t, text)
		}
	}
	for b := range 128 {
		if b != '\n' {
			says(t, "a = 1 # "+string(rune(b))+"x\nb = 2", `{"a":1,"b":2}`)
			says(t, "#"+string(rune(b)), "{}")
		}
	}
}

// filled is a text of just so many bytes: some, then blanks.
func filled(text string, size int) string { return text + strings.Repeat(" ", size-len(text)) }

// TestMostText: a text of just MaxText bytes, and of one more, whatever it says.
func TestMostText(t *testing.T) {
	says(t, filled("a = 1", api.MaxText), `{"a":1}`)
	says(t, filled("a = 1 #", api.MaxText), `{"a":1}`)
	says(t, strings.Repeat("\n", api.MaxText), "{}")
	says(t, strings.Repeat("\r\n", api.MaxText/2), "{}")
	says(t, "#"+strings.Repeat("\u00e9", (api.MaxText-2)/2)+"\n", "{}")
	refuses(t, filled("a =", api.MaxText), api.MaxText, api.ESYNTAX)
	refuses(t, filled("a", api.MaxText), api.MaxText, api.ESYNTAX)
	refuses(t, filled("a = 1\na = 2", api.MaxText), 6, api.ETWICE)
	for _, head := range []string{"", "a = 1", "a", "\xff", "a = 1\na = 2", "[", strings.Repeat("k", api.MaxStr+1) + " = 1", "a = " + strings.Repeat("[", 40)} {
		for _, more := range []int{1, 2, api.MaxText} {
			refuses(t, filled(head, api.MaxText+more), api.MaxText+more, api.ELIMIT)
		}
	}
	refuses(t, strings.Repeat("\n", api.MaxText+1), api.MaxText+1, api.ELIMIT)
	refuses(t, filled("", api.MaxText)+"\xff", api.MaxText+1, api.ELIMIT)
}

// TestLetters: bytes that begin no letter, ahead of and behind other faults.
func TestLetters(t *testing.T) {
	bytes := []string{"\xff", "\x80", "\xc0\x80", "\xc3", "\xe2\x82", "\xed\xa0\x80", "\xf4\x90\x80\x80", "\xf0\x9f\x98"}
	aheads := []string{"", "# ", "\ufffd", "a = '\u20ac", "a = \"", "a = \"\\", "a = 1", "a = 1\n", "'", "[", "[[a]]\n", "a\n", "a = 1\na = 2\n", "a = [1 2]\n", "a = 99999999999999999999\n", strings.Repeat("[[a]]\n", api.MaxNodes), strings.Repeat("k", api.MaxStr+1), "a = " + strings.Repeat("[", 40), "a = 1\n[a]\n"}
	for _, bad := range bytes {
		for _, ahead := range aheads {
			for _, behind := range []string{"", "'", "\n", " x", "\xff", "\n\xff\nb = 1", "\na = 1\na = 2"} {
				refuses(t, ahead+bad+behind, len(ahead), api.EUTF)
			}
		}
	}
}

// TestSameAgain: R5, the same text says the same, whatever order names are kept in.
func TestSameAgain(t *testing.T) {
	text := ""
	for i := range 300 {
		text += fmt.Sprintf("k%d.x = %d\n'%d' = {b = 1, a = 2, c.d = 3, c.a = 4}\n", i, i, i)
	}
	for i := range 100 {
		text += fmt.Sprintf("[[t%d.b]]\n[t%d.a]\nz = 1\ny = 2\n", i%7, i)
	}
	first, fault := tread.Parse(text)
	if fault.Err != api.OK {
		t.Fatalf("P11.1: Parse(%s): %+v", short(text), fault)
	}
	for range 30 {
		if again, _ := tread.Parse(text); !value.Same(first, again) {
			t.Fatalf("R5: Parse(%s) answers another value", short(text))
		}
	}
}

// allLists tells, of each list within a value, where its memory begins and ends, spare room with it.
func allLists(v api.Value) [][2]uintptr {
	out := [][2]uintptr{}
	if cap(v.L) > 0 {
		from := uintptr(unsafe.Pointer(unsafe.SliceData(v.L)))
		out = append(out, [2]uintptr{from, from + uintptr(cap(v.L))*unsafe.Sizeof(api.Value{})})
	}
	if cap(v.M) > 0 {
		from := uintptr(unsafe.Pointer(unsafe.SliceData(v.M)))
		out = append(out, [2]uintptr{from, from + uintptr(cap(v.M))*unsafe.Sizeof(api.Pair{})})
	}
	for _, part := range v.L {
		out = append(out, allLists(part)...)
	}
	for _, p := range v.M {
		out = append(out, allLists(p.V)...)
	}
	return out
}

// allTexts are the texts within a value.
func allTexts(v api.Value) []string {
	out := []string{v.S}
	for _, part := range v.L {
		out = append(out, allTexts(part)...)
	}
	for _, p := range v.M {
		out = append(append(out, p.Key), allTexts(p.V)...)
	}
	return out
}

// TestNewMemory: R4, no two lists of one answer or of two share memory, and none keeps the text.
func TestNewMemory(t *testing.T) {
	for _, c := range right {
		text := strings.Clone(c.text)
		first, _ := tread.Parse(text)
		second, _ := tread.Parse(text)
		lists := append(allLists(first), allLists(second)...)
		sort.Slice(lists, func(i, j int) bool { return lists[i][0] < lists[j][0] })
		for i := 1; i < len(lists); i++ {
			if lists[i-1][1] > lists[i][0] {
				t.Errorf("R4: Parse(%s) answers two lists that share memory", short(text))
			}
		}
		from := uintptr(unsafe.Pointer(unsafe.StringData(text)))
		for _, s := range allTexts(first) {
			if gap := uintptr(unsafe.Pointer(unsafe.StringData(s))) - from; s != "" && gap < uintptr(len(text)) {
				t.Errorf("R4: Parse(%s) answers a piece of the text itself: %s", short(text), short(s))
			}
		}
	}
}
