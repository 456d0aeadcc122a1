package unflat_test

import (
	"fmt"
	"math"
	"reflect"
	"slices"
	"strings"
	"testing"

	"dragoman/api"
	"dragoman/cell"
	"dragoman/flat"
	"dragoman/jprint"
	"dragoman/jread"
	"dragoman/path"
	"dragoman/unflat"
	"dragoman/value"
)

var null = api.Value{}

func whole(n int64) api.Value { return api.Value{Kind: api.Int, N: n} }

func num(s string) api.Value { return api.Value{Kind: api.Num, S: s} }

func said(s string) api.Value { return api.Value{Kind: api.Str, S: s} }

func stamp(s string) api.Value { return api.Value{Kind: api.Stamp, S: s} }

func list(l ...api.Value) api.Value { return api.Value{Kind: api.List, L: l} }

func pairs(m ...api.Pair) api.Value { return api.Value{Kind: api.Map, M: m} }

func pair(key string, v api.Value) api.Pair { return api.Pair{Key: key, V: v} }

func key(s string) path.Step { return path.Step{Key: s} }

func at(n int) path.Step { return path.Step{At: n, Place: true} }

func steps(p ...path.Step) []path.Step { return p }

// leaf is a leaf of a path's text.
func leaf(s string, v api.Value) flat.Leaf {
	p, e := path.Parse(s)
	if e != api.OK {
		panic("no path's text: " + s)
	}
	return flat.Leaf{Path: p, V: v}
}

// leaves are leaves of a text: of each its path's text, = and a cell, with blanks between.
func leaves(s string) []flat.Leaf {
	all := []flat.Leaf{}
	for _, one := range strings.Fields(s) {
		where, text, _ := strings.Cut(one, "=")
		v, e := cell.Value(text)
		if e != api.OK {
			panic("no cell: " + text)
		}
		all = append(all, leaf(where, v))
	}
	return all
}

// table is a table of a text: `;` between rows, the head first, `|` between cells.
func table(s string) flat.Table {
	rows := [][]string{}
	for _, row := range strings.Split(s, ";") {
		rows = append(rows, strings.Split(row, "|"))
	}
	return flat.Table{Head: rows[0], Rows: rows[1:]}
}

// read is the value of a JSON text.
func read(t *testing.T, s string) api.Value {
	t.Helper()
	v, fault := jread.Parse(s)
	if fault.Err != api.OK {
		t.Fatalf("%s is not JSON: %+v", s, fault)
	}
	return v
}

// told tells a head of anything.
func told(x any) string {
	return fmt.Sprintf("%.300s", strings.ToValidUTF8(fmt.Sprintf("%+v", x), "?"))
}

// toldLeaves tells a head of leaves.
func toldLeaves(l []flat.Leaf) string {
	all := []string{}
	for _, leaf := range l[:min(len(l), 20)] {
		text, _ := cell.Text(leaf.V)
		all = append(all, path.Text(leaf.Path[:min(len(leaf.Path), 40)])+"="+text)
	}
	return told(all)
}

// builds tells that of leaves just this tree is made.
func builds(t *testing.T, l []flat.Leaf, want api.Value) {
	t.Helper()
	v, e, at := unflat.Build(l)
	if e != api.OK || at != 0 || !value.Same(v, want) {
		t.Errorf("P17.1: Build(%s): %s, %d at %d, want %s", toldLeaves(l), told(v), e, at, told(want))
	}
}

// unbuilt tells that of leaves no tree is made, with this error at this leaf.
func unbuilt(t *testing.T, l []flat.Leaf, want api.Errno, wantAt int) {
	t.Helper()
	v, e, at := unflat.Build(l)
	if e != want || at != wantAt {
		t.Errorf("P17.1: Build(%s): %s, %d at %d, want %d at %d", toldLeaves(l), told(v), e, at, want, wantAt)
	}
	if e != api.OK && !value.Same(v, null) {
		t.Errorf("R2: Build(%s) tells %s beside the error %d", toldLeaves(l), told(v), e)
	}
}

// reads tells that of a table just this list is made.
func reads(t *testing.T, x flat.Table, want api.Value) {
	t.Helper()
	v, e, row, column := unflat.Unflat(x)
	if e != api.OK || row != 0 || column != 0 || !value.Same(v, want) {
		t.Errorf("P17.2: Unflat(%s): %s, %d at %d, %d, want %s", told(x), told(v), e, row, column, told(want))
	}
}

// unread tells that of a table no list is made, with this error there.
func unread(t *testing.T, x flat.Table, want api.Errno, wantRow, wantColumn int) {
	t.Helper()
	v, e, row, column := unflat.Unflat(x)
	if e != want || row != wantRow || column != wantColumn {
		t.Errorf("P17.2: Unflat(%s): %s, %d at %d, %d, want %d at %d, %d", told(x), told(v), e, row, column, want, wantRow, wantColumn)
	}
	if e != api.OK && !value.Same(v, null) {
		t.Errorf("R2: Unflat(%s) tells %s beside the error %d", told(x), told(v), e)
	}
}

// TestExample: the chapter's own.
func TestExample(t *testing.T) {
	x := flat.Table{Head: []string{"a/0", "a/2"}, Rows: [][]string{{"1", "2"}}}
	if v, e, row, column := unflat.Unflat(x); e != api.ECLASH || row != 1 || column != 1 || !reflect.DeepEqual(v, null) {
		t.Errorf("P17.2: Unflat of the example: %v, %d at %d, %d", v, e, row, column)
	}
}

// trees are leaves, with the tree that has just these.
var trees = map[string]string{
	// The empty path's leaf alone.
	"=null": "null", "=true": "true", "=5": "5", "=-1.50": "-1.50", "=x": `"x"`, "='": `""`, "=[]": "[]", "={}": "{}",
	// Keys.
	"/a=1": `{"a":1}`, "/a=1 /b=2": `{"a":1,"b":2}`, "/b=1 /a=2": `{"a":2,"b":1}`, "/=1": `{"":1}`, "/a=null": `{"a":null}`, "/a=[]": `{"a":[]}`, "/a={}": `{"a":{}}`,
	"/a/b/c=1": `{"a":{"b":{"c":1}}}`, "/a/b=1 /a/c=2 /b/b=3": `{"a":{"b":1,"c":2},"b":{"b":3}}`, "/a/a/a=1 /a/a/b=2 /a/b=3": `{"a":{"a":{"a":1,"b":2},"b":3}}`,
	"//=1": `{"":{"":1}}`, "///a=1 //a=2 /a=3": `{"":{"":{"a":1},"a":2},"a":3}`,
	// By bytes, whatever the paths' order is.
	"/b=1 /B=2 /~k10=3 /~k9=4 /=5 /aa=6 /a!=7 /a=8": `{"":5,"10":3,"9":4,"B":2,"a":8,"a!":7,"aa":6,"b":1}`,
	"/\u20ac=1 /z=2 /~0=3 /~1=4 /.=5":               "{\".\":5,\"/\":4,\"z\":2,\"~\":3,\"\u20ac\":1}",
	// Keys alike in part are not the same.
	"/a=1 /aa=2": `{"a":1,"aa":2}`, "/a~1b=1 /a/b=2": `{"a":{"b":2},"a/b":1}`, "/a/b=1 /ab=2 /b/a=3": `{"a":{"b":1},"ab":2,"b":{"a":3}}`,
	// Places.
	"/0=1": "[1]", "/0=1 /1=2": "[1,2]", "/1=1 /0=2": "[2,1]", "/2=2 /0=0 /1=1": "[0,1,2]", "/0=[]": "[[]]", "/0={} /1=null": "[{},null]",
	"/0/0/0=1": "[[[1]]]", "/0/0=1 /0/1=2 /1/0=3": "[[1,2],[3]]", "/1/0=3 /0/1=2 /0/0=1": "[[1,2],[3]]",
	"/10=10 /9=9 /8=8 /7=7 /6=6 /5=5 /4=4 /3=3 /2=2 /1=1 /0=0": "[0,1,2,3,4,5,6,7,8,9,10]",
	// One in another.
	"/a/0=1 /a/1=2": `{"a":[1,2]}`, "/0/a=1 /0/b=2": `[{"a":1,"b":2}]`, "/1/x=1 /0=1": `[1,{"x":1}]`, "/b=1 /a/1=1 /a/0=[]": `{"a":[[],1],"b":1}`,
	"/a/0/b/0/c=1":                       `{"a":[{"b":[{"c":1}]}]}`,
	"/a/1/x=1 /b/y=2 /a/0/x=3 /a/1/y=4":  `{"a":[{"x":3},{"x":1,"y":4}],"b":{"y":2}}`,
	"/0/0=1 /1/a=2 /2=3":                 `[[1],{"a":2},3]`,
	"/a/0=1 /b/0=2 /c/0=3":               `{"a":[1],"b":[2],"c":[3]}`,
	"/a/~k0=1 /b/0=2":                    `{"a":{"0":1},"b":[2]}`,
	"/~k0/0=1 /~k1/0=2 /~k0/1=3":         `{"0":[1,3],"1":[2]}`,
	"/a/0/0=1 /a/1/0=2 /a/0/1=3 /a/2=[]": `{"a":[[1,3],[2],[]]}`,
	// Values of every kind, and the same one twice.
	"/a=null /b=true /c=false /d=-5 /e=1.50 /f=x /g='5 /h=' /i=[] /j={}": `{"a":null,"b":true,"c":false,"d":-5,"e":1.50,"f":"x","g":"5","h":"","i":[],"j":{}}`,
	"/0=1 /1=1 /2=1": "[1,1,1]",
}

func TestBuild(t *testing.T) {
	for s, want := range trees {
		builds(t, leaves(s), read(t, want))
		if v, _, _ := unflat.Build(leaves(s)); jprint.Compact(v) != want {
			t.Errorf("P17.1: Build of %s: %s, want %s", s, jprint.Compact(v), want)
		}
	}
	for _, v := range []api.Value{null, {Kind: api.Bool}, {Kind: api.Bool, N: 1}, whole(math.MinInt64), num("-0"), said("x\n"), stamp("2020-01-01"), list(), pairs()} {
		builds(t, []flat.Leaf{{V: v}}, v)
		builds(t, []flat.Leaf{leaf("/a", v), leaf("/b/0", v)}, pairs(pair("a", v), pair("b", list(v))))
	}
}

// TestOrders: leaves stand in any order, be they right or wrong; a right one's tree is the same each time.
func TestOrders(t *testing.T) {
	for s, want := range trees {
		l := leaves(s)
		v := read(t, want)
		if len(l) > 5 {
			slices.Reverse(l)
			builds(t, l, v)
			for i := range l {
				builds(t, append(slices.Clone(l[i:]), l[:i]...), v)
			}
			continue
		}
		permute(l, func(l []flat.Leaf) { builds(t, l, v) })
	}
}

// permute does something with each order of a list.
func permute[T any](l []T, do func([]T)) {
	var from func(i int)
	from = func(i int) {
		if i == len(l) {
			do(slices.Clone(l))
		}
		for j := i; j < len(l); j++ {
			l[i], l[j] = l[j], l[i]
			from(i + 1)
			l[i], l[j] = l[j], l[i]
		}
	}
	from(0)
}

// clash is what Build or a row says of leaves that clash, and the first one at which it is told.
type clash struct {
	leaves string
	at     int
}

// clashes are leaves of which no tree is made.
var clashes = []clash{
	// A path twice, whatever the values are.
	{"/a=1 /a=1", 1}, {"/a=1 /a=2", 1}, {"/a=1 /b=1 /a=1", 2}, {"/a=1 /b=1 /a=1 /b=1", 2}, {"/0=1 /0=1", 1}, {"/0=1 /1=1 /0=1", 2}, {"/a/0/b=1 /a/0/b=1", 1}, {"=1 =1", 1}, {"/=1 /=1", 1}, {"/a=1 /a=1 /a=1", 1}, {"/a=[] /a=[]", 1},
	// A path that goes on behind another leaf's.
	{"/a=1 /a/b=1", 1}, {"/a=1 /a/0=1", 1}, {"/a=1 /b=1 /a/b/c/d=1", 2}, {"/0=1 /0/0=1", 1}, {"/0=1 /0/a=1", 1}, {"=1 /a=1", 1}, {"=1 /0=1", 1}, {"=1 /a/b/c=1", 1}, {"/a/b=1 /a/c=1 /a/b/c=1", 2}, {"/=1 //=1", 1},
	// Also behind an empty list's or map's.
	{"/a=[] /a/0=1", 1}, {"/a={} /a/b=1", 1}, {"=[] /0=1", 1}, {"={} /a=1", 1},
	// A path that is the beginning of another one's.
	{"/a/b=1 /a=1", 1}, {"/a/0=1 /a=1", 1}, {"/a/b/c/d=1 /b=1 /a=1", 2}, {"/a/b/c/d=1 /a/b=1", 1}, {"/0/0=1 /0=1", 1}, {"/a=1 =1", 1}, {"/0=1 =1", 1}, {"/a/b/c=1 =[]", 1}, {"/a/0=1 /a=[]", 1}, {"/a/b=1 /a={}", 1}, {"//=1 /=1", 1}, {"/a/b=1 /a/c=1 /b=1 /a=1", 3},
	// A key where another leaf has a place, and the other way.
	{"/0=1 /a=1", 1}, {"/a=1 /0=1", 1}, {"/0=1 /~k0=1", 1}, {"/~k0=1 /0=1", 1}, {"/a/0=1 /a/b=1", 1}, {"/a/b=1 /a/0=1", 1}, {"/a/b=1 /c=1 /a/0=1", 2}, {"/0/0=1 /0/a=1", 1}, {"/0=1 /1=1 /=1", 2}, {"/0/a=1 /a/0=1", 1}, {"/a/0/b=1 /a/b/0=1", 1}, {"/a/0/x=1 /b/0/x=1 /b/0/0=1", 2},
	// The first of many.
	{"/a=1 /a=1 /0=1 =1 /a/b=1", 1}, {"/a=1 /b=1 /0=1 /a=1", 2}, {"/a/0=1 /a/2=1 /a=1", 2}, {"/a/0=1 /b=1 /a/b=1 /b=1", 2},
	// Places with a gap, that do not begin at 0.
	{"/a/0=1 /a/2=1", 0}, {"/a/2=1 /a/0=1", 0}, {"/1=1", 0}, {"/0=1 /2=1", 0}, {"/0=1 /1=1 /3=1", 0}, {"/3=1 /1=1 /0=1", 0}, {"/1=1 /2=1", 0}, {"/5=1 /6=1", 0}, {"/0=1 /9=1", 0}, {"/1000000000=1", 0}, {"/0=1 /1=1 /2=1 /1000000000=1", 0},
	{"/0/1=1", 0}, {"/1/0=1", 0}, {"/0/0=1 /0/2=1", 0}, {"/a/b/c/1=1", 0}, {"/a/1/b=1", 0}, {"/a/0=1 /a/2/b/c=1", 0},
	// The first leaf of such a list, not the first one that stands wrong.
	{"/b=1 /a/1=1", 1}, {"/b=1 /a/0=1 /a/2=1", 1}, {"/b=1 /c=1 /a/0=1 /b2=1 /a/1=1 /a/3=1", 2}, {"/b/0=1 /a/0=1 /a/2=1", 1}, {"/a/0=1 /b/0=1 /a/1=1 /b/7=1", 1}, {"/a/1/0=1 /b=1 /a/1/1=1", 0}, {"/x/y=1 /x/z/0=1 /x/z/2=1", 1},
	// More than one at once: the first leaf, be its list in another one or beside it.
	{"/b=1 /a/0/x/5=1 /a/2=1", 1}, {"/a/0=1 /b/0=1 /b/7=1 /c/1=1", 1}, {"/c/1=1 /b/1=1", 0}, {"/b/1=1 /c/1=1", 0}, {"/a=1 /c/0=1 /b/1=1 /c/2=1", 1}, {"/a=1 /b/1=1 /c/0=1 /c/2=1", 1}, {"/0/0=1 /1/1=1 /3/0=1", 0}, {"/0/0=1 /1/1=1 /2/0=1", 1}, {"/0/5=1 /1=1 /2=1", 0}, {"/0=1 /1/1=1 /2/1=1", 1}, {"/a/0=1 /a/1/1=1 /a/2/1=1", 1}, {"/a/0=1 /a/1/1=1 /a/3=1", 0},
	// Whatever is wrong with a path itself is told ahead of any gap.
	{"/1=1 /a=1", 1}, {"/a/1=1 /b=1 /b=1", 2}, {"/a/1=1 /a/5=1 /a/5/x=1", 2},
}

func TestClash(t *testing.T) {
	for _, c := range clashes {
		unbuilt(t, leaves(c.leaves), api.ECLASH, c.at)
	}
	// Below 0, which no path's text says.
	for i, c := range []struct {
		places []int
		at     int
	}{{[]int{-1}, 1}, {[]int{-1, 0}, 1}, {[]int{0, -1}, 1}, {[]int{-1, 0, 1}, 1}, {[]int{1, -1}, 1}, {[]int{math.MinInt64}, 1}, {[]int{0, math.MinInt64}, 1}, {[]int{math.MaxInt64}, 1}, {[]int{0, 1, math.MaxInt64}, 1}, {[]int{math.MinInt64, math.MaxInt64}, 1}, {[]int{0, 1, 1 << 32}, 1}, {[]int{1<<32 + 1, 0}, 1}, {[]int{-1, -1}, 2}, {[]int{math.MaxInt64, math.MaxInt64}, 2}} {
		l := leaves("/a=1")
		for _, place := range c.places {
			l = append(l, flat.Leaf{Path: steps(key("b"), at(place))})
		}
		unbuilt(t, l, api.ECLASH, c.at)
		for j := range l {
			l[j].Path = slices.Concat(steps(at(0)), l[j].Path)
		}
		unbuilt(t, l, api.ECLASH, c.at)
		if i == 0 {
			unbuilt(t, l[1:], api.ECLASH, 0)
		}
	}
}

// TestNone: no leaves.
func TestNone(t *testing.T) {
	unbuilt(t, nil, api.EARG, 0)
	unbuilt(t, []flat.Leaf{}, api.EARG, 0)
	unbuilt(t, leaves("/a=1")[:0], api.EARG, 0)
}

// withParts are values that have parts, whatever else they are.
func withParts() []api.Value {
	all := []api.Value{list(null), list(whole(1), whole(2)), list(list()), pairs(pair("a", null)), pairs(pair("", pairs())), list(pairs(pair("a", list(null)))), list(num("x")), pairs(pair("\xff", null))}
	for _, kind := range []api.Kind{api.Null, api.Bool, api.Int, api.Num, api.Str, api.List, api.Map, api.Stamp, 8, -1} {
		all = append(all, api.Value{Kind: kind, L: []api.Value{null}}, api.Value{Kind: kind, M: []api.Pair{{}}}, api.Value{Kind: kind, N: 1, S: "x", L: []api.Value{null}, M: []api.Pair{{}}})
	}
	return all
}

// TestParts: a leaf whose value has parts is told ahead of its own clash, behind one of a leaf ahead, and
// ahead of what is asked of all leaves.
func TestParts(t *testing.T) {
	for _, v := range withParts() {
		unbuilt(t, []flat.Leaf{{V: v}}, api.EARG, 0)
		unbuilt(t, append(leaves("/a=1"), leaf("/b", v)), api.EARG, 1)
		unbuilt(t, []flat.Leaf{leaf("/a", v), leaf("/b", null)}, api.EARG, 0)
		unbuilt(t, []flat.Leaf{leaf("/a", v), leaf("/b", v)}, api.EARG, 0)
		for _, s := range []string{"/a", "/a/b", "", "/0", "/a/0"} {
			unbuilt(t, append(leaves("/a=1"), leaf(s, v)), api.EARG, 1)
			unbuilt(t, append(leaves("/a=1 /b/c=1"), leaf(s, v), leaf("/a", null)), api.EARG, 2)
			unbuilt(t, append(leaves("/a=1 /b=1 /a=1"), leaf(s, v)), api.ECLASH, 2)
			unbuilt(t, append(leaves("/a=1 /b=1"), leaf("/b/c", null), leaf(s, v)), api.ECLASH, 2)
		}
		unbuilt(t, append(leaves("/a/1=1 /b=1"), leaf("/c", v)), api.EARG, 2)
		unbuilt(t, []flat.Leaf{leaf("/a", num("x")), leaf("/c", v)}, api.EARG, 1)
	}
	// Empty ones have none, be there spare room or not.
	for _, v := range []api.Value{{Kind: api.List, L: []api.Value{}}, {Kind: api.Map, M: []api.Pair{}}, {L: []api.Value{}, M: []api.Pair{}}, list(null).L[0], {Kind: api.List, L: list(null, null).L[:0], M: pairs(pair("a", null)).M[:0]}} {
		builds(t, []flat.Leaf{leaf("/a", v)}, pairs(pair("a", api.Value{Kind: v.Kind})))
	}
}

// TestSteps: a place's Key and a key's At make no difference.
func TestSteps(t *testing.T) {
	odd, plain := path.Step{Key: "x", At: 0, Place: true}, at(0)
	builds(t, []flat.Leaf{{Path: steps(odd), V: whole(1)}, {Path: steps(path.Step{Key: "y", At: 1, Place: true}), V: whole(2)}}, list(whole(1), whole(2)))
	builds(t, []flat.Leaf{{Path: steps(odd, key("a")), V: whole(1)}, {Path: steps(plain, path.Step{Key: "b", At: 9}), V: whole(2)}}, list(pairs(pair("a", whole(1)), pair("b", whole(2)))))
	unbuilt(t, []flat.Leaf{{Path: steps(odd)}, {Path: steps(plain)}}, api.ECLASH, 1)
	unbuilt(t, []flat.Leaf{{Path: steps(plain)}, {Path: steps(odd)}}, api.ECLASH, 1)
	unbuilt(t, []flat.Leaf{{Path: steps(path.Step{Key: "a", At: 1})}, {Path: steps(path.Step{Key: "a", At: 2})}}, api.ECLASH, 1)
	unbuilt(t, []flat.Leaf{{Path: steps(path.Step{Key: "0", At: 0})}, {Path: steps(path.Step{Key: "0", At: 0, Place: true})}}, api.ECLASH, 1)
}

// lists are tables, with the list that they say.
var lists = map[string]string{
	// One row.
	"a;1": `[{"a":1}]`, "a|b/c;1|x": `[{"a":1,"b":{"c":"x"}}]`, "b/c|a;x|1": `[{"a":1,"b":{"c":"x"}}]`, "a/0|a/1;1|2": `[{"a":[1,2]}]`, "a/1|a/0;null|[]": `[{"a":[[],null]}]`, "a/b/c/0;1": `[{"a":{"b":{"c":[1]}}}]`,
	"a|b|c|d|e|f|g|h;null|true|false|-5|1.50|x|[]|{}":                `[{"a":null,"b":true,"c":false,"d":-5,"e":1.50,"f":"x","g":[],"h":{}}]`,
	"a|b|c|d|e|f|g|h|i|j;'null|'true|'5|'1.5|'[]|'{}|'|''x|'@x| a, ": `[{"a":"null","b":"true","c":"5","d":"1.5","e":"[]","f":"{}","g":"","h":"'x","i":"@x","j":" a, "}]`,
	"a|b|c;'x|00|NULL": `[{"a":"x","b":"00","c":"NULL"}]`,
	"|~k0;1|2":         `[{"":1,"0":2}]`,
	"/;1":              `[{"":{"":1}}]`,
	"~1|~0|~k~0k|a~1b|a,b|\u20ac;1|2|3|4|5|6":                                   "[{\"/\":1,\"a,b\":5,\"a/b\":4,\"~\":2,\"~k\":3,\"\u20ac\":6}]",
	"a/10|a/9|a/8|a/7|a/6|a/5|a/4|a/3|a/2|a/1|a/0|b;10|9|8|7|6|5|4|3|2|1|0|'00": `[{"a":[0,1,2,3,4,5,6,7,8,9,10],"b":"00"}]`,
	// Rows in their order, and with cells that are empty.
	"a;1;2;1": `[{"a":1},{"a":2},{"a":1}]`, "b|a;1|;|'5": `[{"b":1},{"a":"5"}]`, "a|b|c;1||3;|2|;||3": `[{"a":1,"c":3},{"b":2},{"c":3}]`,
	"a|b;|2": `[{"b":2}]`, "a|b;1|": `[{"a":1}]`, "a|b|c;|2|": `[{"b":2}]`,
	// Columns that clash, but have no cells in one row.
	"a|a/b;1|;|2": `[{"a":1},{"a":{"b":2}}]`, "a/b|a;1|;|2": `[{"a":{"b":1}},{"a":2}]`, "a/0|a/b|a;1||;|2|;||3": `[{"a":[1]},{"a":{"b":2}},{"a":3}]`, "a/0|a/1|a/2;1||;1|2|;1|2|3": `[{"a":[1]},{"a":[1,2]},{"a":[1,2,3]}]`,
	"0|a;|1": `[{"a":1}]`, "0|1|~k0;||1;||2": `[{"0":1},{"0":2}]`, "a/2|a/0;|1": `[{"a":[1]}]`, "1000000000|a/1000000000|b;||1": `[{"b":1}]`,
	// A column that no row has.
	"a|b;1|;2|": `[{"a":1},{"a":2}]`,
}

func TestUnflat(t *testing.T) {
	for s, want := range lists {
		reads(t, table(s), read(t, want))
		if v, _, _, _ := unflat.Unflat(table(s)); jprint.Compact(v) != want {
			t.Errorf("P17.2: Unflat of %s: %s, want %s", s, jprint.Compact(v), want)
		}
	}
	reads(t, table("a|b;@2020-01-01|2020-01-01"), list(pairs(pair("a", stamp("2020-01-01")), pair("b", said("2020-01-01")))))
	reads(t, table("a;@ "), list(pairs(pair("a", stamp(" ")))))
}

// wrong is what is wrong with a table, and where.
type wrong struct {
	table       string
	e           api.Errno
	row, column int
}

// wrongs are tables of which no list is made.
var wrongs = []wrong{
	// Names that are no path's text.
	{"~;1", api.ESYNTAX, 0, 1}, {"a|~;1|2", api.ESYNTAX, 0, 2}, {"a~;1", api.ESYNTAX, 0, 1}, {"a~2;1", api.ESYNTAX, 0, 1}, {"~kx;1", api.ESYNTAX, 0, 1}, {"~k;1", api.ESYNTAX, 0, 1}, {"~k00;1", api.ESYNTAX, 0, 1}, {"a/~;1", api.ESYNTAX, 0, 1}, {"1000000001;1", api.ESYNTAX, 0, 1}, {"a/1000000001;1", api.ESYNTAX, 0, 1}, {"99999999999999999999;1", api.ESYNTAX, 0, 1}, {"a|b|c~k|~;1|2|3|4", api.ESYNTAX, 0, 3}, {"~|~;1|2", api.ESYNTAX, 0, 1},
	// A name twice.
	{"a|a;1|2", api.ETWICE, 0, 2}, {"a|b|a;1|2|3", api.ETWICE, 0, 3}, {"a|b|b|a;1|2|3|4", api.ETWICE, 0, 3}, {"|;1|2", api.ETWICE, 0, 2}, {"a|a|a;|1|", api.ETWICE, 0, 2}, {"a/0|b|a/0;1|2|3", api.ETWICE, 0, 3}, {"a|a;|1", api.ETWICE, 0, 2}, {"a|a;1|", api.ETWICE, 0, 2}, {"0|0;1|2", api.ETWICE, 0, 2},
	// Column by column.
	{"a|a|~;1", api.ETWICE, 0, 2}, {"a|~|a;1", api.ESYNTAX, 0, 2}, {"~|a|a;1", api.ESYNTAX, 0, 1}, {"a|b|a|~;1", api.ETWICE, 0, 3},
	// Names ahead of all else, also of there being no rows.
	{"~", api.ESYNTAX, 0, 1}, {"a|a", api.ETWICE, 0, 2}, {"a|~;1", api.ESYNTAX, 0, 2}, {"a|a;1", api.ETWICE, 0, 2}, {"a|~;@|1", api.ESYNTAX, 0, 2}, {"a|a;@|@", api.ETWICE, 0, 2}, {"a|a;|", api.ETWICE, 0, 2},
	// Rows with a cell too few, and with one too many.
	{"a|b;1", api.EROW, 1, 0}, {"a|b;1|2|3", api.EROW, 1, 0}, {"a|b;1|2;1", api.EROW, 2, 0}, {"a|b;1|2;1|2|", api.EROW, 2, 0}, {"a|b;1;1|2|3", api.EROW, 1, 0}, {"a|b;1|2|3;1", api.EROW, 1, 0}, {"a;1|", api.EROW, 1, 0}, {"a|b;", api.EROW, 1, 0}, {"a;1;1;1;1|2;1", api.EROW, 4, 0},
	// All rows' lengths ahead of any cell.
	{"a|b;@|1;1|2|3", api.EROW, 2, 0}, {"a|b;|;1", api.EROW, 2, 0}, {"a|a/b;1|2;1", api.EROW, 2, 0}, {"0|1;1|2;1|2;1", api.EROW, 3, 0}, {"a|b;1|@;@", api.EROW, 2, 0},
	// Cells with each of Value's errors.
	{"a;@", api.ESYNTAX, 1, 1}, {"a|b;1|@\x7f", api.ESYNTAX, 1, 2}, {"a|b;1|2;1|@", api.ESYNTAX, 2, 2}, {"a;\xff", api.EUTF, 1, 1}, {"a|b;1|'\xff", api.EUTF, 1, 2}, {"a|b|c;|\xe2\x82|@", api.EUTF, 1, 2}, {"a|b;@|\xff", api.ESYNTAX, 1, 1}, {"a|b;\xff|@", api.EUTF, 1, 1}, {"a|b;1|2;3|\xff;@|5", api.EUTF, 2, 2}, {"a|b;|@", api.ESYNTAX, 1, 2},
	// A row's cells ahead of its leaves, but behind those of the rows ahead.
	{"a|a/b|c;1|2|@", api.ESYNTAX, 1, 3}, {"0|1|2;1|2|\xff", api.EUTF, 1, 3}, {"a/0|a/2|b;1|2|@", api.ESYNTAX, 1, 3}, {"a|a/b|c;1|2|3;@|1|1", api.ECLASH, 1, 2}, {"0|1;1|2;@|2", api.ECLASH, 1, 0}, {"a|b;|;@|2", api.ECLASH, 1, 0},
	// Leaves that clash: the column is that leaf's, also where columns ahead are empty.
	{"a/0|a/2;1|2", api.ECLASH, 1, 1}, {"b|a/0|a/2;1|2|3", api.ECLASH, 1, 2}, {"b|a/0|a/2;|2|3", api.ECLASH, 1, 2}, {"a/1;1", api.ECLASH, 1, 1}, {"a|a/1;|1", api.ECLASH, 1, 2}, {"x|y|a/0|z|a/1|a/2;|1|2||| 3", api.ECLASH, 1, 3}, {"a|a/b;1|2", api.ECLASH, 1, 2}, {"a/b|a;1|2", api.ECLASH, 1, 2}, {"x|a|y|a/b;|1||2", api.ECLASH, 1, 4}, {"a/0|a/b;1|2", api.ECLASH, 1, 2}, {"a/b|x|a/0;1||2", api.ECLASH, 1, 3}, {"0|a;1|2", api.ECLASH, 1, 2}, {"a|0;1|2", api.ECLASH, 1, 2}, {"~k0|0;1|2", api.ECLASH, 1, 2}, {"a|a/b;1|;1|2", api.ECLASH, 2, 2}, {"a|a/0;[]|1", api.ECLASH, 1, 2}, {"a|a/b;{}|1", api.ECLASH, 1, 2}, {"a/1|a/0;1|2;|3;4|", api.ECLASH, 3, 1}, {"1000000000;1", api.ECLASH, 1, 1}, {"a|b/1000000000;1|2", api.ECLASH, 1, 2},
	// A row of which all cells are empty.
	{"a;", api.ECLASH, 1, 0}, {"a|b;|", api.ECLASH, 1, 0}, {"a|b;1|2;|", api.ECLASH, 2, 0}, {"a|b;1|2;|;1|2", api.ECLASH, 2, 0}, {"a/0|a/2;|", api.ECLASH, 1, 0},
	// A row whose tree is no map.
	{"0;1", api.ECLASH, 1, 0}, {"0|1;1|2", api.ECLASH, 1, 0}, {"0/a|0/b;1|2", api.ECLASH, 1, 0}, {"0|a;1|", api.ECLASH, 1, 0}, {"0|a;|1;1|", api.ECLASH, 2, 0}, {"0/0;{}", api.ECLASH, 1, 0},
	// No rows.
	{"a", api.EARG, 0, 0}, {"a|b", api.EARG, 0, 0}, {"", api.EARG, 0, 0}, {"a/0|a/2|0", api.EARG, 0, 0},
}

func TestUnflatErrors(t *testing.T) {
	for _, c := range wrongs {
		unread(t, table(c.table), c.e, c.row, c.column)
	}
	// No columns.
	unread(t, flat.Table{}, api.EARG, 0, 0)
	unread(t, flat.Table{Head: []string{}, Rows: [][]string{}}, api.EARG, 0, 0)
	unread(t, flat.Table{Rows: [][]string{nil}}, api.ECLASH, 1, 0)
	unread(t, flat.Table{Rows: [][]string{{}, {}}}, api.ECLASH, 1, 0)
	unread(t, flat.Table{Rows: [][]string{{""}}}, api.EROW, 1, 0)
	unread(t, flat.Table{Rows: [][]string{{}, {"1"}}}, api.EROW, 2, 0)
	unread(t, flat.Table{Head: []string{"a"}, Rows: [][]string{nil}}, api.EROW, 1, 0)
	unread(t, flat.Table{Head: []string{"a"}, Rows: [][]string{{"1"}, nil, {"1"}}}, api.EROW, 2, 0)
	// A key that may not be is no fault of the name, but its tree is not Good; in a row without it, it may be.
	unread(t, table("\xff;1"), api.ELIMIT, 1, 1)
	unread(t, table("a|b/\xff;1|2"), api.ELIMIT, 1, 1)
	unread(t, table("b|a|\xff;|1|2"), api.ELIMIT, 1, 2)
	reads(t, table("a|\xff;1|"), list(pairs(pair("a", whole(1)))))
	unread(t, table("a|\xff;1|;2|3"), api.ELIMIT, 2, 1)
}

// TestClashRow: what Build says of leaves, Unflat says of a row with such columns, if names can say them.
func TestClashRow(t *testing.T) {
	for _, c := range clashes {
		x := flat.Table{Head: []string{"!"}, Rows: [][]string{{""}, {""}}}
		for _, leaf := range leaves(c.leaves) {
			text, _ := cell.Text(leaf.V)
			x.Head = append(x.Head, "k"+path.Text(leaf.Path))
			x.Rows[0] = append(x.Rows[0], text)
			x.Rows[1] = append(x.Rows[1], text)
		}
		if names := slices.Sorted(slices.Values(x.Head)); len(slices.Compact(names)) < len(x.Head) {
			continue
		}
		unread(t, x, api.ECLASH, 1, c.at+2)
		x.Rows[0] = append([]string{"1"}, make([]string, len(x.Head)-1)...)
		unread(t, x, api.ECLASH, 2, c.at+2)
	}
}

// TestBack: P17.3.
func TestBack(t *testing.T) {
	for _, s := range []string{
		`[{"a":1}]`, `[{"a":1,"b":{"c":"x"}}]`, `[{"a":1},{"a":2},{"a":1}]`, `[{"a":1},{"b":2},{"a":3,"c":4}]`, `[{"a":1},{"a":{"b":2}},{"a":[1,2]},{"a":[[]]}]`,
		`[{"a":[{"b":[[],{}]}]},{"a":null,"":{"":""}}]`, `[{"0":1,"a":[1]},{"a":{"0":2}}]`, `[{"~k":{"/":1.50}}]`, `[{"a":"null","b":"5","c":"","d":"'","e":"@"}]`,
		`[{"b":1,"B":2,"10":3,"9":4},{"a":[0,1,2,3,4,5,6,7,8,9,10]}]`, `[{"a":{"1":1}},{"a":[2,3]}]`, `[{"a/b":1},{"a":{"b":2}}]`,
	} {
		v := read(t, s)
		x, e := flat.Flat(v)
		if e != api.OK {
			t.Fatalf("P17.3: no table of %s: %d", s, e)
		}
		reads(t, x, v)
	}
	v := list(pairs(pair("a", stamp("12:00"))), pairs(pair("b", num("-0"))))
	x, _ := flat.Flat(v)
	reads(t, x, v)
}
