package flat_test

import (
	"fmt"
	"math"
	"reflect"
	"slices"
	"strings"
	"testing"
	"unsafe"

	"dragoman/api"
	"dragoman/cell"
	"dragoman/flat"
	"dragoman/jread"
	"dragoman/path"
	"dragoman/value"
)

var null = api.Value{}

func whole(n int64) api.Value { return api.Value{Kind: api.Int, N: n} }

func num(s string) api.Value { return api.Value{Kind: api.Num, S: s} }

func said(s string) api.Value { return api.Value{Kind: api.Str, S: s} }

func stamp(s string) api.Value { return api.Value{Kind: api.Stamp, S: s} }

func list(l ...api.Value) api.Value { return api.Value{Kind: api.List, L: l} }

func pairs(m ...api.Pair) api.Value { return api.Value{Kind: api.Map, M: m} }

func pair(key string, v api.Value) api.Pair { return api.Pair{Key: key, V: v} }

func key(s string) path.Step { return path.Step{Key: s} }

func at(n int) path.Step { return path.Step{At: n, Place: true} }

func steps(p ...path.Step) []path.Step { return p }

// read is the value of a JSON text.
func read(t *testing.T, s string) api.Value {
	t.Helper()
	v, fault := jread.Parse(s)
	if fault.Err != api.OK {
		t.Fatalf("%s is not JSON: %+v", s, fault)
	}
	return v
}

// told tells a head of anything.
func told(x any) string { return fmt.Sprintf("%.300s", fmt.Sprintf("%+v", x)) }

// leavesText tells leaves: each one's path, its value as a cell.
func leavesText(leaves []flat.Leaf) string {
	all := []string{}
	for _, leaf := range leaves {
		text, _ := cell.Text(leaf.V)
		all = append(all, path.Text(leaf.Path)+"="+text)
	}
	return strings.Join(all, " ")
}

// tableText tells a table: `|` between cells, `;` between rows, the head first.
func tableText(t flat.Table) string {
	all := []string{strings.Join(t.Head, "|")}
	for _, row := range t.Rows {
		all = append(all, strings.Join(row, "|"))
	}
	return strings.Join(all, ";")
}

// refuses tells that of a value no table is made, with this error.
func refuses(t *testing.T, v api.Value, want api.Errno) {
	t.Helper()
	table, e := flat.Flat(v)
	if e != want {
		t.Errorf("P16.1: Flat(%s): %s, %d, want %d", told(v), told(table), e, want)
	}
	if e != api.OK && (len(table.Head) > 0 || len(table.Rows) > 0) {
		t.Errorf("R2: Flat(%s) tells %s beside the error %d", told(v), told(table), e)
	}
}

// flattens tells that of a value just this table is made.
func flattens(t *testing.T, v api.Value, want string) {
	t.Helper()
	table, e := flat.Flat(v)
	if e != api.OK || tableText(table) != want {
		t.Errorf("P16.1: Flat(%s): %s, %d, want %s", told(v), told(tableText(table)), e, told(want))
	}
	for _, row := range table.Rows {
		if len(row) != len(table.Head) {
			t.Errorf("P16.1: Flat(%s) has a row of %d cells below %d names", told(v), len(row), len(table.Head))
		}
	}
}

// TestExample: the chapter's own.
func TestExample(t *testing.T) {
	v := list(pairs(pair("a", whole(1)), pair("b", pairs(pair("c", said("x"))))))
	table, e := flat.Flat(v)
	if e != api.OK || !slices.Equal(table.Head, []string{"a", "b/c"}) || len(table.Rows) != 1 || !slices.Equal(table.Rows[0], []string{"1", "x"}) {
		t.Errorf("P16.1: Flat of the example: %v, %d", table, e)
	}
}

func TestLeaves(t *testing.T) {
	for s, want := range map[string]string{
		// What has no parts is its own leaf, at the empty path.
		"null": "=null", "true": "=true", "false": "=false", "5": "=5", "-1.50": "=-1.50", `"x"`: "=x", `""`: "='", `"null"`: "='null", "[]": "=[]", "{}": "={}",
		// Lists.
		"[1]": "/0=1", "[1,2]": "/0=1 /1=2", "[2,1,2]": "/0=2 /1=1 /2=2", "[[]]": "/0=[]", "[{}]": "/0={}", "[[],{},null]": "/0=[] /1={} /2=null",
		"[[[1]]]": "/0/0/0=1", "[[1,2],[],[[3],4]]": "/0/0=1 /0/1=2 /1=[] /2/0/0=3 /2/1=4",
		// Places go by numbers.
		"[0,1,2,3,4,5,6,7,8,9,10,11]": "/0=0 /1=1 /2=2 /3=3 /4=4 /5=5 /6=6 /7=7 /8=8 /9=9 /10=10 /11=11",
		// Maps: keys go by bytes, however they stood.
		`{"a":1}`: "/a=1", `{"b":1,"a":2}`: "/a=2 /b=1", `{"a":{}}`: "/a={}", `{"a":[]}`: "/a=[]", `{"b":1,"B":2,"10":3,"9":4,"":5}`: "/=5 /~k10=3 /~k9=4 /B=2 /b=1",
		`{"a":{"b":{"c":1}}}`: "/a/b/c=1", `{"a":{"b":1,"c":{"d":2}},"e":3}`: "/a/b=1 /a/c/d=2 /e=3",
		// A key that is the beginning of another one: what is below it comes first.
		`{"a":{"z":1},"a!":2,"aa":3}`: "/a/z=1 /a!=2 /aa=3",
		// One in another.
		`[1,[],[2,{}]]`: "/0=1 /1=[] /2/0=2 /2/1={}", `{"a":[1,{"b":2,"c":{}},[]],"b":{"/":[[3]]}}`: "/a/0=1 /a/1/b=2 /a/1/c={} /a/2=[] /b/~1/0/0=3",
		`[{"a":1},{"a":[{"b":[]}]}]`: "/0/a=1 /1/a/0/b=[]", `{"0":[{"0":1}]}`: "/~k0/0/~k0=1", `{"~":1,"~k":2,"~k0":3}`: "/~0=1 /~k~0k=2 /~k~0k0=3",
	} {
		if got := leavesText(flat.Leaves(read(t, s))); got != want {
			t.Errorf("P16.1: Leaves of %s: %s, want %s", s, got, want)
		}
	}
}

// TestLeavesFields: a leaf has the very steps, and all fields of the value.
func TestLeavesFields(t *testing.T) {
	all := []api.Value{null, {Kind: api.Bool, N: 1}, {Kind: api.Bool}, whole(math.MinInt64), num("1.50"), said(""), said("x\n"), stamp("2020-01-01"), list(), pairs()}
	v := pairs(pair("", null), pair("0", list(all...)), pair("~/", whole(7)))
	want := []flat.Leaf{{Path: steps(key("")), V: null}}
	for i, x := range all {
		want = append(want, flat.Leaf{Path: steps(key("0"), at(i)), V: x})
	}
	want = append(want, flat.Leaf{Path: steps(key("~/")), V: whole(7)})
	if got := flat.Leaves(v); !sameLeaves(got, want) {
		t.Errorf("P16.1: Leaves: %+v, want %+v", got, want)
	}
	for _, x := range all {
		if got := flat.Leaves(x); !sameLeaves(got, []flat.Leaf{{V: x}}) {
			t.Errorf("P16.1: Leaves(%+v): %+v", x, got)
		}
	}
}

// sameLeaves tells whether leaves are alike, in all their fields.
func sameLeaves(a, b []flat.Leaf) bool {
	return slices.EqualFunc(a, b, func(x, y flat.Leaf) bool {
		return slices.Equal(x.Path, y.Path) && value.Same(x.V, y.V)
	})
}

// TestLeavesNotGood: of what is not Good, too, and as path's All goes: by the kind, and in the pairs' order.
func TestLeavesNotGood(t *testing.T) {
	for _, kind := range []api.Kind{api.Null, api.Bool, api.Int, api.Num, api.Str, api.Stamp, 8, 9, -1, math.MaxInt64, math.MinInt64} {
		v := api.Value{Kind: kind, N: 3, S: "\xff", L: []api.Value{whole(1)}, M: []api.Pair{pair("a", whole(1))}}
		if got := flat.Leaves(v); !sameLeaves(got, []flat.Leaf{{V: v}}) {
			t.Errorf("P16.1: Leaves of kind %d: %+v", kind, got)
		}
		if got := flat.Leaves(list(v, v)); !sameLeaves(got, []flat.Leaf{{Path: steps(at(0)), V: v}, {Path: steps(at(1)), V: v}}) {
			t.Errorf("P16.1: Leaves of a list of kind %d: %+v", kind, got)
		}
	}
	for _, c := range []struct {
		v    api.Value
		want []flat.Leaf
	}{
		{pairs(pair("b", whole(1)), pair("a", whole(2))), []flat.Leaf{{Path: steps(key("b")), V: whole(1)}, {Path: steps(key("a")), V: whole(2)}}},
		{pairs(pair("a", whole(1)), pair("a", list(null))), []flat.Leaf{{Path: steps(key("a")), V: whole(1)}, {Path: steps(key("a"), at(0)), V: null}}},
		{pairs(pair("\xff", num("x"))), []flat.Leaf{{Path: steps(key("\xff")), V: num("x")}}},
		{api.Value{Kind: api.List, N: 1, S: "x", L: []api.Value{null}, M: []api.Pair{{}}}, []flat.Leaf{{Path: steps(at(0)), V: null}}},
		{api.Value{Kind: api.Map, N: 1, S: "x", L: []api.Value{null}, M: []api.Pair{{}}}, []flat.Leaf{{Path: steps(key("")), V: null}}},
		{api.Value{Kind: api.List, M: []api.Pair{{}}}, []flat.Leaf{{V: api.Value{Kind: api.List, M: []api.Pair{{}}}}}},
		{api.Value{Kind: api.Map, L: []api.Value{null}}, []flat.Leaf{{V: api.Value{Kind: api.Map, L: []api.Value{null}}}}},
	} {
		if got := flat.Leaves(c.v); !sameLeaves(got, c.want) {
			t.Errorf("P16.1: Leaves(%+v): %+v, want %+v", c.v, got, c.want)
		}
	}
}

// tables are lists of maps, with their tables.
var tables = map[string]string{
	`[{"a":1,"b":{"c":"x"}}]`: "a|b/c;1|x",
	`[{"a":1}]`:               "a;1",
	`[{"a":{"b":{"c":[1]}}}]`: "a/b/c/0;1",
	// The same keys, and the rows in the list's order.
	`[{"a":3,"b":1},{"a":1,"b":2},{"b":0,"a":2},{"a":1,"b":2}]`: "a|b;3|1;1|2;2|0;1|2",
	// Other keys: nothing in the columns of the others.
	`[{"a":1},{"b":2}]`:                         "a|b;1|;|2",
	`[{"b":1},{"a":2}]`:                         "a|b;|1;2|",
	`[{"b":1},{"a":"","b":null}]`:               "a|b;|1;'|null",
	`[{"a":1},{"a":2,"c":3},{"b":4}]`:           "a|b|c;1||;2||3;|4|",
	`[{"z":1},{"y":1},{"x":1}]`:                 "x|y|z;||1;|1|;1||",
	`[{"a":{"x":1}},{"a":{"y":2},"b":{"x":3}}]`: "a/x|a/y|b/x;1||;|2|3",
	// Cells of every kind, as package cell writes them.
	`[{"a":null,"b":true,"c":false,"d":-5,"e":1.50,"f":"x","g":[],"h":{}}]`:                             "a|b|c|d|e|f|g|h;null|true|false|-5|1.50|x|[]|{}",
	`[{"a":"null","b":"true","c":"5","d":"1.5","e":"[]","f":"{}","g":"","h":"'x","i":"@x","j":" a, "}]`: "a|b|c|d|e|f|g|h|i|j;'null|'true|'5|'1.5|'[]|'{}|'|''x|'@x| a, ",
	// A path that is another's beginning is a column of its own, ahead of those that go on.
	`[{"a":1},{"a":{"b":2}}]`:                 "a|a/b;1|;|2",
	`[{"a":{"b":2}},{"a":1}]`:                 "a|a/b;|2;1|",
	`[{"a":[1,[]]},{"a":{"x":{}}},{"a":"5"}]`: "a|a/0|a/1|a/x;|1|[]|;|||{};'5|||",
	`[{"a":[]},{"a":[[]]},{"a":[[[]]]}]`:      "a|a/0|a/0/0;[]||;|[]|;||[]",
	`[{"a":{}},{"a":{"a":{}}},{"a":{}}]`:      "a|a/a;{}|;|{};{}|",
	`[{"a":[]},{"a":{}},{"a":null}]`:          "a;[];{};null",
	// By path's Cmp: places ahead of keys, places by numbers, keys by bytes; step by step, so that not
	// the names' bytes count.
	`[{"a":[0,1,2,3,4,5,6,7,8,9,10]}]`:            "a/0|a/1|a/2|a/3|a/4|a/5|a/6|a/7|a/8|a/9|a/10;0|1|2|3|4|5|6|7|8|9|10",
	`[{"a":{"0":1,"":2,"/":3}},{"a":[4,5]}]`:      "a/0|a/1|a/|a/~1|a/~k0;||2|3|1;4|5|||",
	`[{"a":{"b":1},"a!":2}]`:                      "a/b|a!;1|2",
	`[{"a!":2},{"a":{"b":1}}]`:                    "a/b|a!;|2;1|",
	`[{"b":1,"B":2,"10":3,"9":4,"\u20ac":5}]`:     "~k10|~k9|B|b|\u20ac;3|4|2|1|5",
	`[{"~":1,"}":2,"/":3,".":4,"0":5,"00":6}]`:    ".|~1|~k0|00|}|~0;4|3|5|6|2|1",
	`[{"a":[{"x":1},{"x":2}]},{"a":[{"y":3},4]}]`: "a/0/x|a/0/y|a/1|a/1/x;1|||2;|3|4|",
	// Keys that path's Text escapes, or that are empty.
	`[{"":1}]`:                           ";1",
	`[{"":{"":1}}]`:                      "/;1",
	`[{"":[1]}]`:                         "/0;1",
	`[{"":{"a":1},"a":{"":2}}]`:          "/a|a/;1|2",
	`[{"":1,"/":2,"0":3}]`:               "|~1|~k0;1|2|3",
	`[{"a/b":1},{"a":{"b":2}}]`:          "a/b|a~1b;|1;2|",
	`[{"a~1b":1,"~k":2,"~k3":3,"3":4}]`:  "~k3|a~01b|~k~0k|~k~0k3;4|1|2|3",
	`[{"a":{"1":1}},{"a":[2,3]}]`:        "a/0|a/1|a/~k1;||1;2|3|",
	`[{"a,b":1,"c\"d":2,"e\nf":"g\nh"}]`: "a,b|c\"d|e\nf;1|2|g\nh",
	// Lists within the maps, empty ones too.
	`[{"a":[1,2]},{"a":[3]},{"a":[]},{"b":[[],[[4]]]}]`: "a|a/0|a/1|b/0|b/1/0/0;|1|2||;|3|||;[]||||;|||[]|4",
}

func TestFlat(t *testing.T) {
	for s, want := range tables {
		flattens(t, read(t, s), want)
	}
	flattens(t, list(pairs(pair("a", stamp("2020-01-01")), pair("b", said("2020-01-01")))), "a|b;@2020-01-01|2020-01-01")
}

// wrong are values of which no table is made, whatever the limits are.
func wrong(t *testing.T) []api.Value {
	all := []api.Value{}
	for _, s := range []string{
		// No list.
		"null", "true", "5", "1.5", `"x"`, `""`, "{}", `{"a":1}`, `{"a":{"b":1}}`, `{"a":[{"b":1}]}`, `{"0":{"a":1}}`,
		// An empty one.
		"[]",
		// Of something other than maps, first, last or between.
		"[1]", "[null]", `["a"]`, "[[]]", "[[1]]", `[[{"a":1}]]`, `[{"a":1},1]`, `[1,{"a":1}]`, `[{"a":1},null,{"a":1}]`, `[{"a":1},[{"a":1}]]`, `[[],{"a":1}]`, `[{"a":1},[]]`, `[{"a":1},"{}"]`,
		// Of an empty map, first, last or between.
		"[{}]", "[{},{}]", `[{},{"a":1}]`, `[{"a":1},{}]`, `[{"a":1},{},{"a":1}]`,
	} {
		all = append(all, read(t, s))
	}
	good := pairs(pair("a", whole(1)))
	return append(all,
		stamp("2020-01-01"),
		// Not Good: the list itself.
		api.Value{Kind: api.List, N: 1, L: []api.Value{good}}, api.Value{Kind: api.List, S: "x", L: []api.Value{good}}, api.Value{Kind: api.List, L: []api.Value{good}, M: []api.Pair{{}}}, api.Value{Kind: api.List, M: []api.Pair{{}}},
		api.Value{Kind: 8, L: []api.Value{good}}, api.Value{Kind: -1, L: []api.Value{good}}, api.Value{L: []api.Value{good}}, api.Value{Kind: api.Map, L: []api.Value{good}},
		// A map of it.
		list(api.Value{Kind: api.Map, N: 1, M: good.M}), list(good, api.Value{Kind: api.Map, S: "x", M: good.M}), list(api.Value{Kind: api.Map, L: []api.Value{null}, M: good.M}), list(good, api.Value{Kind: 9, M: good.M}), list(api.Value{M: good.M}), list(api.Value{Kind: api.List, M: good.M}), list(api.Value{Kind: api.Map, L: []api.Value{good}}),
		list(pairs(pair("b", whole(1)), pair("a", whole(1)))), list(pairs(pair("a", whole(1)), pair("a", whole(1)))), list(good, pairs(pair("\xff", whole(1)))),
		// A part of a map.
		list(pairs(pair("a", api.Value{N: 1}))), list(pairs(pair("a", num("5")))), list(pairs(pair("a", num("x")))), list(pairs(pair("a", said("\xff")))), list(good, pairs(pair("a", stamp("")))), list(pairs(pair("a", api.Value{Kind: 9}))), list(pairs(pair("a", api.Value{Kind: api.Bool, N: 2}))),
		list(pairs(pair("a", list(api.Value{Kind: api.Int, S: "1"})))), list(pairs(pair("a", pairs(pair("c", null), pair("b", null))))), list(pairs(pair("a", pairs(pair("\xff", null))))),
	)
}

func TestErrors(t *testing.T) {
	for _, v := range wrong(t) {
		refuses(t, v, api.EARG)
	}
}

// TestWithin: a list that may be is none any more with what may not be in it, wherever it stands.
func TestWithin(t *testing.T) {
	for s := range tables {
		v := read(t, s)
		for i := range len(v.L) + 1 {
			for _, x := range []api.Value{null, whole(1), list(), pairs(), list(v.L[0]), pairs(pair("a", api.Value{Kind: 9}))} {
				refuses(t, list(slices.Insert(slices.Clone(v.L), i, x)...), api.EARG)
			}
		}
		refuses(t, list(), api.EARG)
		refuses(t, list(v), api.EARG)
		refuses(t, pairs(pair("a", v)), api.EARG)
	}
}

// TestNilAndEmpty: nil and an empty list are one, also where there is spare room.
func TestNilAndEmpty(t *testing.T) {
	for _, room := range []int{0, 3} {
		l, m := make([]api.Value, room)[:0], make([]api.Pair, room)[:0]
		refuses(t, api.Value{Kind: api.List, L: l, M: m}, api.EARG)
		refuses(t, list(api.Value{Kind: api.Map, L: l, M: m}), api.EARG)
		v := list(pairs(pair("a", api.Value{Kind: api.List, L: l, M: m}), pair("b", api.Value{Kind: api.Map, L: l, M: m}), pair("c", api.Value{L: l, M: m})))
		flattens(t, v, "a|b|c;[]|{}|null")
		if got := leavesText(flat.Leaves(v)); got != "/0/a=[] /0/b={} /0/c=null" {
			t.Errorf("P16.1: Leaves of empty lists with room for %d: %s", room, got)
		}
	}
}

// roomy is a value of which every list and every map has spare room.
func roomy(v api.Value) api.Value {
	v.L = append(slices.Clone(v.L), whole(77), list(said("room")))[:len(v.L)]
	v.M = append(slices.Clone(v.M), pair("room", whole(77)), pair("a", list(said("room"))))[:len(v.M)]
	for i := range v.L {
		v.L[i] = roomy(v.L[i])
	}
	for i := range v.M {
		v.M[i].V = roomy(v.M[i].V)
	}
	return v
}

// inside tells all of a value, spare room too.
func inside(v api.Value) string {
	out := fmt.Sprint(v.Kind, v.N, len(v.L), cap(v.L), len(v.M), cap(v.M)) + fmt.Sprintf("%q[", v.S)
	for _, x := range v.L[:cap(v.L)] {
		out += inside(x)
	}
	for _, p := range v.M[:cap(v.M)] {
		out += fmt.Sprintf("%q:", p.Key) + inside(p.V)
	}
	return out + "]"
}

// spoil writes over all lists of a value, spare room too.
func spoil(v api.Value) {
	for i, x := range v.L[:cap(v.L)] {
		spoil(x)
		v.L[:cap(v.L)][i] = said("spoilt")
	}
	for i, p := range v.M[:cap(v.M)] {
		spoil(p.V)
		v.M[:cap(v.M)][i] = pair("spoilt", said("spoilt"))
	}
}

// handed are values that Leaves and Flat are asked of: whole ones, and such as are refused.
func handed(t *testing.T) []api.Value {
	all := wrong(t)
	for s := range tables {
		all = append(all, read(t, s))
	}
	return all
}

// TestArguments: what is handed in is not changed, spare room included, and what is told of it is the same
// each time.
func TestArguments(t *testing.T) {
	for _, x := range handed(t) {
		v := roomy(x)
		before := inside(v)
		leaves := flat.Leaves(v)
		table, e := flat.Flat(v)
		if inside(v) != before {
			t.Errorf("R4: %s is changed: %s", told(x), told(v))
		}
		again, errorAgain := flat.Flat(v)
		if e != errorAgain || !reflect.DeepEqual(table, again) || !reflect.DeepEqual(leaves, flat.Leaves(v)) {
			t.Errorf("R5: of %s is told twice: %s, %d; %s, %d", told(x), told(table), e, told(again), errorAgain)
		}
		// What was answered does not hang on what becomes of the argument.
		leavesBefore, tableBefore := leavesText(leaves), tableText(table)
		spoil(v)
		if leavesText(leaves) != leavesBefore || tableText(table) != tableBefore {
			t.Errorf("R4: what was told of %s is spoilt with it: %s, %s", told(x), told(leaves), told(table))
		}
	}
}

// lists counts in how many lists each place in memory lies, spare room included.
type lists map[unsafe.Pointer]int

// add counts the places of one list.
func add[T any](seen lists, l []T) {
	l = l[:cap(l)]
	for i := range l {
		seen[unsafe.Pointer(&l[i])]++
	}
}

// addValue counts the places of a value's lists.
func addValue(seen lists, v api.Value) {
	add(seen, v.L)
	add(seen, v.M)
	for _, x := range v.L {
		addValue(seen, x)
	}
	for _, p := range v.M {
		addValue(seen, p.V)
	}
}

// TestNewMemory: no two lists of what is answered share a place, nor any with what was handed in.
func TestNewMemory(t *testing.T) {
	for _, x := range handed(t) {
		v := roomy(x)
		seen := lists{}
		addValue(seen, v)
		leaves := flat.Leaves(v)
		table, _ := flat.Flat(v)
		add(seen, leaves)
		for _, leaf := range leaves {
			add(seen, leaf.Path)
			addValue(seen, leaf.V)
		}
		add(seen, table.Head)
		add(seen, table.Rows)
		for _, row := range table.Rows {
			add(seen, row)
		}
		for place, n := range seen {
			if n > 1 {
				t.Fatalf("R4: of %s, the place %v lies in %d lists", told(x), place, n)
			}
		}
	}
}

// TestNewTexts: names and cells are no pieces of what was handed in.
func TestNewTexts(t *testing.T) {
	name, text := strings.Clone("a name of a column"), strings.Clone("a text of a cell")
	table, _ := flat.Flat(list(pairs(pair(name, said(text))), pairs(pair("n", num("1.5")))))
	if within(name, table.Head[0]) || within(text, table.Rows[0][0]) {
		t.Errorf("R4: Flat tells pieces of its argument")
	}
}

// within tells whether a piece lies in a text's memory.
func within(text, piece string) bool {
	begin := uintptr(unsafe.Pointer(unsafe.StringData(text)))
	place := uintptr(unsafe.Pointer(unsafe.StringData(piece)))
	return place >= begin && place < begin+uintptr(len(text))
}
