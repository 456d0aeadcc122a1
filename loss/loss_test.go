package loss_test

import (
	"fmt"
	"math"
	"slices"
	"strings"
	"testing"

	"dragoman/api"
	"dragoman/jprint"
	"dragoman/jread"
	"dragoman/loss"
	"dragoman/value"
)

// The formats.
const (
	json = 1
	toml = 2
	csv  = 3
)

var formats = []int{json, toml, csv}

var null = api.Value{}

func whole(n int64) api.Value { return api.Value{Kind: api.Int, N: n} }

func num(s string) api.Value { return api.Value{Kind: api.Num, S: s} }

func said(s string) api.Value { return api.Value{Kind: api.Str, S: s} }

func stamp(s string) api.Value { return api.Value{Kind: api.Stamp, S: s} }

func list(l ...api.Value) api.Value { return api.Value{Kind: api.List, L: l} }

func pairs(m ...api.Pair) api.Value { return api.Value{Kind: api.Map, M: m} }

func pair(key string, v api.Value) api.Pair { return api.Pair{Key: key, V: v} }

func of(key string, v api.Value) api.Value { return pairs(pair(key, v)) }

// read is the value of a JSON text in which a string that begins with @ is a stamp.
func read(t *testing.T, s string) api.Value {
	t.Helper()
	v, fault := jread.Parse(s)
	if fault.Err != api.OK {
		t.Fatalf("%s is not JSON: %+v", s, fault)
	}
	return stamps(v)
}

// stamps makes stamps of the strings that begin with @.
func stamps(v api.Value) api.Value {
	if v.Kind == api.Str && strings.HasPrefix(v.S, "@") {
		return stamp(v.S[1:])
	}
	for i := range v.L {
		v.L[i] = stamps(v.L[i])
	}
	for i := range v.M {
		v.M[i].V = stamps(v.M[i].V)
	}
	return v
}

// told tells a head of anything.
func told(x any) string { return fmt.Sprintf("%.300s", fmt.Sprintf("%+v", x)) }

// notesText tells notes: of each its path, : and its number, with blanks between.
func notesText(notes []loss.Note) string {
	all := []string{}
	for _, note := range notes {
		all = append(all, fmt.Sprint(note.Path, ":", note.What))
	}
	return strings.Join(all, " ")
}

// fits tells that Fit makes just this of a value, with just these notes; and all that follows of that.
func fits(t *testing.T, f int, v, want api.Value, notes string) {
	t.Helper()
	got, gotNotes, e := loss.Fit(f, v)
	if e != api.OK || !value.Same(got, want) || notesText(gotNotes) != notes {
		t.Errorf("P18.2: Fit(%d, %s): %s, %s, %d, want %s, %s", f, told(v), told(got), told(notesText(gotNotes)), e, told(want), told(notes))
	}
	if !loss.May(f, got) {
		t.Errorf("P18.3: May(%d, %s), of Fit's value, is false", f, told(got))
	}
	again, more, e := loss.Fit(f, got)
	if e != api.OK || len(more) > 0 || !value.Same(again, got) {
		t.Errorf("P18.3: Fit(%d, %s), of Fit's value: %s, %s, %d", f, told(got), told(again), notesText(more), e)
	}
	if may := loss.May(f, v); may != (notes == "") || may != value.Same(v, got) {
		t.Errorf("P18.2: May(%d, %s): %v, but the notes are %s", f, told(v), may, notes)
	}
}

// unfit tells that of a value Fit makes nothing, with this error; and that May is false.
func unfit(t *testing.T, f int, v api.Value, want api.Errno) {
	t.Helper()
	got, notes, e := loss.Fit(f, v)
	if e != want {
		t.Errorf("P18.2: Fit(%d, %s): %s, %s, %d, want %d", f, told(v), told(got), notesText(notes), e, want)
	}
	if e != api.OK && (!value.Same(got, null) || len(notes) > 0) {
		t.Errorf("R2: Fit(%d, %s) tells %s, %s beside the error %d", f, told(v), told(got), notesText(notes), e)
	}
	if loss.May(f, v) {
		t.Errorf("P18.1: May(%d, %s) is true", f, told(v))
	}
}

// TestExample: the chapter's own.
func TestExample(t *testing.T) {
	v, notes, e := loss.Fit(toml, list(null))
	if e != api.OK || !value.Same(v, of("value", list(said("null")))) || !slices.Equal(notes, []loss.Note{{"", 2}, {"/0", 4}}) {
		t.Errorf("P18.2: Fit of the example: %+v, %+v, %d", v, notes, e)
	}
}

// may are values with the formats that can say them.
var may = map[string]string{
	// Without parts.
	"null": "1", "true": "1", "false": "1", "5": "1", "-1": "1", "1.5": "1", "-0": "1", `"x"`: "1", `""`: "1", `"@x"`: "", `"@2020-01-01"`: "",
	// Maps.
	"{}": "1 2", `{"a":1}`: "1 2", `{"a":true,"b":"x","c":1.5,"d":-1e5,"e":1E5}`: "1 2", `{"a":null}`: "1", `{"a":-0}`: "1", `{"a":99999999999999999999}`: "1", `{"a":99999999999999999999.0}`: "1 2",
	`{"a":{},"b":[]}`: "1 2", `{"a":[null]}`: "1", `{"a":[[],[{"b":null}]]}`: "1", `{"a":[[],[{"b":5}]]}`: "1 2", `{"a":{"b":{"c":-0}}}`: "1", `{"":1,"~/":2}`: "1 2",
	`{"a":"@2020-01-01"}`: "2", `{"a":"@inf"}`: "2", `{"a":"@-nan"}`: "2", `{"a":"@12:00:00"}`: "2", `{"a":"@2020-01-01 12:00:00Z"}`: "2", `{"a":"@x"}`: "", `{"a":"@2020-02-30"}`: "", `{"a":"@INF"}`: "", `{"a":[{"b":["@inf"]}]}`: "2", `{"a":[{"b":["@inf",null]}]}`: "",
	// Lists.
	"[]": "1", "[1]": "1", "[null]": "1", "[{}]": "1", "[[]]": "1", "[[[]]]": "1", `["@x"]`: "", `[[["@inf"]]]`: "", `[[{"a":1}]]`: "1",
	// Lists of maps.
	`[{"a":1}]`: "1 3", `[{"a":null}]`: "1 3", `[{"a":-0}]`: "1 3", `[{"a":1.5}]`: "1 3", `[{"a":[]},{"b":{}}]`: "1 3", `[{"a":[1,null]},{"b":{"c":{"d":2}}}]`: "1 3", `[{"a":"@x"}]`: "3", `[{"a":"@inf"}]`: "3", `[{"b":1},{"a":[{"c":"@ "}]}]`: "3",
	`[{"a":1},{}]`: "1", `[{},{"a":1}]`: "1", `[{"a":1},2]`: "1", `[{"a":1},null]`: "1", `[{"a":1},[]]`: "1", `[{"a":1},[{"a":1}]]`: "1", `[{"a":"@x"},{}]`: "", `[{"a":1},"@x"]`: "",
}

func TestMay(t *testing.T) {
	for s, want := range may {
		v, all := read(t, s), []string{}
		for _, f := range formats {
			if loss.May(f, v) {
				all = append(all, fmt.Sprint(f))
			}
		}
		if got := strings.Join(all, " "); got != want {
			t.Errorf("P18.1: %s may be of formats %s, want %s", s, got, want)
		}
	}
}

// others are numbers of no format.
var others = []int{0, -1, -2, -3, 4, 5, 257, 258, 259, math.MaxInt, math.MinInt, math.MinInt + 1, 1<<32 + 1}

// TestOtherFormat: no value may be of it, nor is one made.
func TestOtherFormat(t *testing.T) {
	for _, f := range others {
		for s := range may {
			unfit(t, f, read(t, s), api.EARG)
		}
		for _, v := range notGood() {
			unfit(t, f, v, api.EARG)
		}
	}
}

// notGood are values that may not be, whatever the limits are.
func notGood() []api.Value {
	odd := []api.Value{
		{N: 1}, {S: "x"}, {L: []api.Value{null}}, {M: []api.Pair{{}}}, {Kind: api.Bool, N: 2}, {Kind: api.Bool, S: "x"}, {Kind: api.Int, S: "1"}, {Kind: api.Num, S: "1.5", N: 1}, num("5"), num("x"), num(""), num("1."), num("01"),
		{Kind: api.Str, N: 1}, said("\xff"), said("a\xe2\x82"), {Kind: api.Str, S: "x", L: []api.Value{null}}, stamp(""), stamp("\n"), stamp("\u20ac"), stamp("\x7f"), {Kind: api.Stamp, S: "x", N: 1},
		{Kind: api.List, N: 1}, {Kind: api.List, S: "x"}, {Kind: api.List, M: []api.Pair{{}}}, {Kind: api.Map, N: 1}, {Kind: api.Map, S: "x"}, {Kind: api.Map, L: []api.Value{null}},
		pairs(pair("b", null), pair("a", null)), pairs(pair("a", null), pair("a", null)), of("\xff", null), {Kind: 8}, {Kind: -1}, {Kind: math.MaxInt64}, {Kind: math.MinInt64},
	}
	all := []api.Value{}
	for _, x := range odd {
		// Alone, in what every format could say else, and beside what it could not.
		all = append(all, x, of("a", x), list(of("a", x)), list(of("a", list(x))), list(null, x), pairs(pair("a", stamp("x")), pair("b", of("c", x))), list(pairs(), list(list(x))))
	}
	return all
}

func TestNotGood(t *testing.T) {
	for _, v := range notGood() {
		for _, f := range formats {
			unfit(t, f, v, api.EARG)
		}
		if loss.Common(v) {
			t.Errorf("P18.1: Common(%s), which is not Good", told(v))
		}
	}
}

// fitted are values of JSON with what Fit makes of them, and its notes.
type fitted struct{ v, want, notes string }

var ofJSON = []fitted{
	{`"@x"`, `"x"`, ":1"}, {`"@ "`, `" "`, ":1"}, {`"@2020-01-01"`, `"2020-01-01"`, ":1"}, {`"@null"`, `"null"`, ":1"}, {`"@@x"`, `"\u0040x"`, ":1"}, {`"@\"\\"`, `"\"\\"`, ":1"},
	{`["@x"]`, `["x"]`, "/0:1"}, {`{"a":"@x"}`, `{"a":"x"}`, "/a:1"}, {`{"":"@x"}`, `{"":"x"}`, "/:1"},
	{`[null,-0,"@x",[],{},"@y"]`, `[null,-0,"x",[],{},"y"]`, "/2:1 /5:1"},
	{`[1,"@x",{"a":"@y"}]`, `[1,"x",{"a":"y"}]`, "/1:1 /2/a:1"},
	{`{"b":"@1","a":["@2",{"z":"@3","y":"@4"}],"c":{"d":{"e":"@5"}}}`, `{"a":["2",{"y":"4","z":"3"}],"b":"1","c":{"d":{"e":"5"}}}`, "/a/0:1 /a/1/y:1 /a/1/z:1 /b:1 /c/d/e:1"},
	{`["@a","@b","@c","@d","@e","@f","@g","@h","@i","@j","@k"]`, `["a","b","c","d","e","f","g","h","i","j","k"]`, "/0:1 /1:1 /2:1 /3:1 /4:1 /5:1 /6:1 /7:1 /8:1 /9:1 /10:1"},
	{`{"0":"@x","~":"@y","a/b":["@z"]}`, `{"0":"x","~":"y","a/b":["z"]}`, "/~k0:1 /a~1b/0:1 /~0:1"},
}

var ofTOML = []fitted{
	// A root that is no map.
	{"true", `{"value":true}`, ":2"}, {"5", `{"value":5}`, ":2"}, {"1.5", `{"value":1.5}`, ":2"}, {`"x"`, `{"value":"x"}`, ":2"}, {"[]", `{"value":[]}`, ":2"}, {"[1,2]", `{"value":[1,2]}`, ":2"}, {`[{"a":1}]`, `{"value":[{"a":1}]}`, ":2"}, {`[{"value":1}]`, `{"value":[{"value":1}]}`, ":2"}, {`[[[]]]`, `{"value":[[[]]]}`, ":2"},
	{"null", "{}", ":2 :3"}, {`"null"`, `{"value":"null"}`, ":2"}, {"-0", `{"value":-0.0}`, ":2 :5"}, {"99999999999999999999", `{"value":99999999999999999999.0}`, ":2 :5"}, {`"@x"`, `{"value":"x"}`, ":2 :1"}, {`"@inf"`, `{"value":"@inf"}`, ":2"}, {`"@2020-01-01"`, `{"value":"@2020-01-01"}`, ":2"},
	{"[null]", `{"value":["null"]}`, ":2 /0:4"}, {"[null,1,null]", `{"value":["null",1,"null"]}`, ":2 /0:4 /2:4"}, {`[{"a":null}]`, `{"value":[{}]}`, ":2 /0/a:3"}, {`[[null],{"a":[null],"b":null}]`, `{"value":[["null"],{"a":["null"]}]}`, ":2 /0/0:4 /1/a/0:4 /1/b:3"}, {`[-0,"@x"]`, `{"value":[-0.0,"x"]}`, ":2 /0:5 /1:1"},
	// Nulls.
	{`{"a":null}`, "{}", "/a:3"}, {`{"a":null,"b":null}`, "{}", "/a:3 /b:3"}, {`{"a":1,"b":null,"c":2}`, `{"a":1,"c":2}`, "/b:3"}, {`{"b":null,"a":1}`, `{"a":1}`, "/b:3"}, {`{"a":{"b":null}}`, `{"a":{}}`, "/a/b:3"}, {`{"a":[null]}`, `{"a":["null"]}`, "/a/0:4"}, {`{"a":[[null,null],null]}`, `{"a":[["null","null"],"null"]}`, "/a/0/0:4 /a/0/1:4 /a/1:4"},
	{`{"a":null,"b":[null,{"c":null}]}`, `{"b":["null",{}]}`, "/a:3 /b/0:4 /b/1/c:3"}, {`{"value":null}`, "{}", "/value:3"}, {`{"value":[null]}`, `{"value":["null"]}`, "/value/0:4"}, {`{"":null,"~k0":null,"0":[null]}`, `{"0":["null"]}`, "/:3 /~k0/0:4 /~k~0k0:3"},
	// Nums.
	{`{"a":-0}`, `{"a":-0.0}`, "/a:5"}, {`{"a":9223372036854775807,"b":9223372036854775808}`, `{"a":9223372036854775807,"b":9223372036854775808.0}`, "/b:5"}, {`{"a":-9223372036854775808,"b":-9223372036854775809}`, `{"a":-9223372036854775808,"b":-9223372036854775809.0}`, "/b:5"}, {`{"a":[99999999999999999999,1e5,99999999999999999999e0,99999999999999999999E0,-0,-0.0,-0e0]}`, `{"a":[99999999999999999999.0,1e5,99999999999999999999e0,99999999999999999999E0,-0.0,-0.0,-0e0]}`, "/a/0:5 /a/4:5"},
	// Stamps.
	{`{"a":"@x"}`, `{"a":"x"}`, "/a:1"}, {`{"a":["@x",["@inf"],"@null"]}`, `{"a":["x",["@inf"],"null"]}`, "/a/0:1 /a/2:1"}, {`{"a":"@what","b":"@-nan","c":"@2020-02-30","d":"@2020-02-29","e":"@25:00:00","f":"@+INF"}`, `{"a":"what","b":"@-nan","c":"2020-02-30","d":"@2020-02-29","e":"25:00:00","f":"+INF"}`, "/a:1 /c:1 /e:1 /f:1"},
	// A number's text is a stamp's, too.
	{`{"a":"@1.5","b":"@5"}`, `{"a":"1.5","b":"5"}`, "/a:1 /b:1"},
	// All of them.
	{`{"d":[-0,{"z":"@x","y":null},null],"c":null,"b":"@y","a":{"k":-0,"j":null}}`, `{"a":{"k":-0.0},"b":"y","d":[-0.0,{"z":"x"},"null"]}`, "/a/j:3 /a/k:5 /b:1 /c:3 /d/0:5 /d/1/y:3 /d/1/z:1 /d/2:4"},
}

var ofCSV = []fitted{
	// A root that is no list.
	{"null", `[{"value":null}]`, ":7 :2"}, {"true", `[{"value":true}]`, ":7 :2"}, {"5", `[{"value":5}]`, ":7 :2"}, {"-0", `[{"value":-0}]`, ":7 :2"}, {`""`, `[{"value":""}]`, ":7 :2"}, {`"@x"`, `[{"value":"@x"}]`, ":7 :2"},
	{`{"a":1}`, `[{"a":1}]`, ":7"}, {`{"value":1}`, `[{"value":1}]`, ":7"}, {`{"a":null,"b":{},"c":[]}`, `[{"a":null,"b":{},"c":[]}]`, ":7"}, {`{"a":[{}]}`, `[{"a":[{}]}]`, ":7"}, {`{"a":[1,{"b":"@x"}]}`, `[{"a":[1,{"b":"@x"}]}]`, ":7"},
	{"{}", `[{"value":null}]`, ":7 :8"}, {"[]", `[{"value":null}]`, ":7 :8"},
	// An element that is no map.
	{"[1]", `[{"value":1}]`, "/0:2"}, {"[null]", `[{"value":null}]`, "/0:2"}, {"[[]]", `[{"value":[]}]`, "/0:2"}, {"[[1,2]]", `[{"value":[1,2]}]`, "/0:2"}, {`[[{"a":1}]]`, `[{"value":[{"a":1}]}]`, "/0:2"}, {"[[{}]]", `[{"value":[{}]}]`, "/0:2"}, {`["@x"]`, `[{"value":"@x"}]`, "/0:2"},
	{`[1,{"a":2}]`, `[{"value":1},{"a":2}]`, "/0:2"}, {`[{"a":2},1]`, `[{"a":2},{"value":1}]`, "/1:2"}, {`[{"value":2},1]`, `[{"value":2},{"value":1}]`, "/1:2"}, {"[[],[[]],[[],[]]]", `[{"value":[]},{"value":[[]]},{"value":[[],[]]}]`, "/0:2 /1:2 /2:2"},
	{"[0,1,2,3,4,5,6,7,8,9,0]", `[{"value":0},{"value":1},{"value":2},{"value":3},{"value":4},{"value":5},{"value":6},{"value":7},{"value":8},{"value":9},{"value":0}]`, "/0:2 /1:2 /2:2 /3:2 /4:2 /5:2 /6:2 /7:2 /8:2 /9:2 /10:2"},
	// An empty map.
	{"[{}]", `[{"value":null}]`, "/0:8"}, {"[{},{}]", `[{"value":null},{"value":null}]`, "/0:8 /1:8"}, {`[{"a":{}},{}]`, `[{"a":{}},{"value":null}]`, "/1:8"}, {`[{},{"a":{}}]`, `[{"value":null},{"a":{}}]`, "/0:8"},
	// All of them.
	{`[1,{},{"a":2},[],null]`, `[{"value":1},{"value":null},{"a":2},{"value":[]},{"value":null}]`, "/0:2 /1:8 /3:2 /4:2"}, {`[{},1,{"a":{}},"@x",{},[{}],{"b":null}]`, `[{"value":null},{"value":1},{"a":{}},{"value":"@x"},{"value":null},{"value":[{}]},{"b":null}]`, "/0:8 /1:2 /3:2 /4:8 /5:2"},
}

func TestFit(t *testing.T) {
	for i, cases := range [][]fitted{ofJSON, ofTOML, ofCSV} {
		for _, c := range cases {
			// A string that begins with @ is no stamp of the wanted ones in JSON, where there are none.
			want := read(t, c.want)
			if i+1 == json {
				want, _ = jread.Parse(c.want)
			}
			fits(t, i+1, read(t, c.v), want, c.notes)
		}
	}
}

// TestAlready: what a format can say comes back as it is, without a note.
func TestAlready(t *testing.T) {
	for s, all := range may {
		for _, f := range formats {
			if v := read(t, s); strings.Contains(all, fmt.Sprint(f)) {
				fits(t, f, v, v, "")
			}
		}
	}
}

// TestNilAndEmpty: nil and an empty list are one, also where there is spare room.
func TestNilAndEmpty(t *testing.T) {
	for _, room := range []int{0, 3} {
		bare := api.Value{L: make([]api.Value, room)[:0], M: make([]api.Pair, room)[:0]}
		l, m := bare, bare
		l.Kind, m.Kind = api.List, api.Map
		fits(t, json, list(l, m, bare, stamp("x")), list(list(), pairs(), null, said("x")), "/3:1")
		fits(t, toml, m, pairs(), "")
		fits(t, toml, l, of("value", list()), ":2")
		fits(t, toml, bare, pairs(), ":2 :3")
		fits(t, toml, pairs(pair("a", l), pair("b", m), pair("c", bare)), pairs(pair("a", list()), pair("b", pairs())), "/c:3")
		fits(t, csv, l, list(of("value", null)), ":7 :8")
		fits(t, csv, m, list(of("value", null)), ":7 :8")
		fits(t, csv, bare, list(of("value", null)), ":7 :2")
		fits(t, csv, list(l, m, bare), list(of("value", list()), of("value", null), of("value", null)), "/0:2 /1:8 /2:2")
		if loss.Common(l) || loss.Common(m) || loss.Common(list(m)) {
			t.Errorf("P18.1: Common of what is empty, with room for %d", room)
		}
	}
}

// common are values, each with whether all formats can say it.
var common = map[string]bool{
	`[{"a":1}]`: true, `[{"a":true}]`: true, `[{"a":false}]`: true, `[{"a":"x"}]`: true, `[{"a":""}]`: true, `[{"":0}]`: true, `[{"a":"null"}]`: true, `[{"value":1}]`: true,
	`[{"a":1},{"a":1}]`: true, `[{"a":1,"b":"x"},{"a":true,"b":2}]`: true, `[{"a":1,"b":2},{"b":"x","a":false},{"a":"","b":0}]`: true, `[{"/":1,"0":2,"~":3},{"/":"","0":"","~":""}]`: true,
	// No list of one or more.
	"[]": false, "null": false, "1": false, `"x"`: false, "{}": false, `{"a":1}`: false, `{"a":{"b":1}}`: false, `{"a":[{"b":1}]}`: false, `"@x"`: false,
	// Of something other than maps.
	"[1]": false, "[null]": false, `["x"]`: false, "[true]": false, "[[]]": false, `[[{"a":1}]]`: false, `[{"a":1},1]`: false, `[1,{"a":1}]`: false, `[{"a":1},[]]`: false, `[{"a":1},null]`: false,
	// Without keys.
	"[{}]": false, "[{},{}]": false, `[{"a":1},{}]`: false, `[{},{"a":1}]`: false,
	// With other keys.
	`[{"a":1},{"b":1}]`: false, `[{"a":1},{"a":1,"b":1}]`: false, `[{"a":1,"b":1},{"a":1}]`: false, `[{"a":1,"b":1},{"b":1}]`: false, `[{"a":1,"b":1},{"a":1,"c":1}]`: false, `[{"a":1},{"a":1},{"A":1}]`: false, `[{"a":1},{"a":1},{"a":1},{"a":1,"":1}]`: false,
	// With other values: first, last, between.
	`[{"a":null}]`: false, `[{"a":1.5}]`: false, `[{"a":1e5}]`: false, `[{"a":-0}]`: false, `[{"a":99999999999999999999}]`: false, `[{"a":"@x"}]`: false, `[{"a":"@inf"}]`: false, `[{"a":[]}]`: false, `[{"a":{}}]`: false, `[{"a":[1]}]`: false, `[{"a":{"b":1}}]`: false,
	`[{"a":1,"b":null}]`: false, `[{"a":null,"b":1}]`: false, `[{"a":1,"b":[],"c":1}]`: false, `[{"a":1},{"a":null}]`: false, `[{"a":null},{"a":1}]`: false, `[{"a":1},{"a":1.5},{"a":1}]`: false, `[{"a":1},{"a":"@inf"}]`: false, `[{"a":1},{"a":{"a":1}}]`: false,
}

func TestCommon(t *testing.T) {
	for s, want := range common {
		v := read(t, s)
		if loss.Common(v) != want {
			t.Errorf("P18.1: Common of %s: %v", s, !want)
		}
		if !want {
			continue
		}
		// What is Common, JSON and CSV say as it is, and TOML in a map.
		fits(t, json, v, v, "")
		fits(t, csv, v, v, "")
		fits(t, toml, v, of("value", v), ":2")
		// With any other thing in it, it is no more.
		for i := range len(v.L) + 1 {
			for _, x := range []api.Value{null, whole(1), said("x"), list(), pairs(), list(v.L[0]), of("other", whole(1)), {Kind: api.Map, N: 1, M: v.L[0].M}, {Kind: api.List, M: v.L[0].M}} {
				if other := list(slices.Insert(slices.Clone(v.L), i, x)...); loss.Common(other) {
					t.Errorf("P18.1: Common of %s", told(other))
				}
			}
		}
	}
}

func TestName(t *testing.T) {
	names := []string{"", "stamp", "wrapped", "dropped", "null", "point", "long", "listed", "empty"}
	for what := -300; what < 300; what++ {
		want := ""
		if what >= 0 && what < len(names) {
			want = names[what]
		}
		if got := loss.Name(what); got != want {
			t.Errorf("P18.2: Name(%d): %s, want %s", what, got, want)
		}
	}
	for _, what := range others {
		if what < 1 || what > 8 {
			if got := loss.Name(what); got != "" {
				t.Errorf("P18.2: Name(%d): %s", what, got)
			}
		}
	}
}

// TestJSONIsWritten: what may be JSON jprint writes and jread reads as it is.
func TestJSONIsWritten(t *testing.T) {
	for s := range may {
		v, _, e := loss.Fit(json, read(t, s))
		got, fault := jread.Parse(jprint.Compact(v))
		if e != api.OK || fault.Err != api.OK || !value.Same(got, v) {
			t.Errorf("P18.2: Fit of %s is written as %s", s, jprint.Compact(v))
		}
	}
}
