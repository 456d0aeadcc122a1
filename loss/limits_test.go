package loss_test

import (
	"fmt"
	"slices"
	"strings"
	"testing"

	"dragoman/api"
	"dragoman/loss"
	"dragoman/path"
	"dragoman/value"
)

// inLists and inMaps are a value with so many lists, or maps, around it.
func inLists(n int, v api.Value) api.Value {
	for range n {
		v = list(v)
	}
	return v
}

func inMaps(n int, v api.Value) api.Value {
	for range n {
		v = of("k", v)
	}
	return v
}

// where is the path of n steps, each the same.
func where(n int, step string) string { return strings.Repeat("/"+step, n) }

// held tells that Fit makes something of a value just if it is said to.
func held(t *testing.T, f int, v api.Value, yes bool) {
	t.Helper()
	if !value.Good(v) {
		t.Fatalf("%s is not Good", told(v))
	}
	if !yes {
		unfit(t, f, v, api.ELIMIT)
		return
	}
	out, _, e := loss.Fit(f, v)
	if e != api.OK || !loss.May(f, out) {
		t.Errorf("P18.2: Fit(%d, %s): %s, %d", f, told(v), told(out), e)
	}
}

// TestMostDepth: what is wrapped or listed is one deeper: at MaxDepth all is well.
func TestMostDepth(t *testing.T) {
	const most = api.MaxDepth
	for d := most - 4; d <= most; d++ {
		lists, maps, rows := inLists(d-1, whole(1)), inMaps(d-1, whole(1)), list(inMaps(d-2, whole(1)))
		for _, v := range []api.Value{lists, maps, rows} {
			if got := value.Deep(v); got != d {
				t.Errorf("%s is %d deep, not %d", told(v), got, d)
			}
			fits(t, json, v, v, "")
		}
		fits(t, toml, maps, maps, "")
		fits(t, csv, rows, rows, "")
		if d == most {
			unfit(t, toml, lists, api.ELIMIT)
			unfit(t, toml, rows, api.ELIMIT)
			unfit(t, csv, lists, api.ELIMIT)
			unfit(t, csv, maps, api.ELIMIT)
			continue
		}
		fits(t, toml, lists, of("value", lists), ":2")
		fits(t, toml, rows, of("value", rows), ":2")
		fits(t, csv, lists, list(of("value", lists.L[0])), "/0:2")
		fits(t, csv, maps, list(maps), ":7")
	}
	for _, v := range []api.Value{inLists(most, whole(1)), inMaps(most, stamp("x")), list(inMaps(most-1, whole(1)))} {
		for _, f := range formats {
			unfit(t, f, v, api.EARG)
		}
	}
}

// TestDeepNotes: the paths go all the way down.
func TestDeepNotes(t *testing.T) {
	const most = api.MaxDepth
	fits(t, json, inLists(most-1, stamp("x")), inLists(most-1, said("x")), where(most-1, "0")+":1")
	fits(t, json, inMaps(most-1, stamp("x")), inMaps(most-1, said("x")), where(most-1, "k")+":1")
	fits(t, toml, inMaps(most-1, stamp("x")), inMaps(most-1, said("x")), where(most-1, "k")+":1")
	fits(t, toml, inMaps(most-2, list(null)), inMaps(most-2, list(said("null"))), where(most-2, "k")+"/0:4")
	fits(t, toml, inLists(most-2, null), of("value", inLists(most-2, said("null"))), ":2 "+where(most-2, "0")+":4")
	fits(t, toml, inMaps(most-1, null), inMaps(most-2, pairs()), where(most-1, "k")+":3")
}

// TestShallower: a null that is left out is not counted, neither in depth nor in nodes.
func TestShallower(t *testing.T) {
	const most = api.MaxDepth
	fits(t, toml, inLists(most-2, of("k", null)), of("value", inLists(most-2, pairs())), ":2 "+where(most-2, "0")+"/k:3")
	unfit(t, toml, inLists(most-2, of("k", whole(1))), api.ELIMIT)
	unfit(t, toml, inLists(most-1, null), api.ELIMIT)
	unfit(t, toml, inLists(most-2, pairs(pair("k", null), pair("l", whole(1)))), api.ELIMIT)
	ones := slices.Repeat([]api.Value{whole(1)}, api.MaxNodes-3)
	v := list(append(slices.Clone(ones), of("k", null))...)
	fits(t, toml, v, of("value", list(append(slices.Clone(ones), pairs())...)), fmt.Sprintf(":2 /%d/k:3", len(ones)))
	held(t, toml, list(append(slices.Clone(ones), of("k", whole(1)))...), false)
	held(t, toml, list(append(slices.Clone(ones), list(null))...), false)
}

// filled is a list that has just n nodes: of maps of few columns, and of the last one behind them.
func filled(n int, last api.Value) api.Value {
	rows := []api.Value{}
	for free := n - 1 - value.Size(last); free > 0; {
		size := min(free, 50)
		if free-size == 1 {
			// A row has two nodes or more.
			size--
		}
		rows = append(rows, of("a", list(slices.Repeat([]api.Value{whole(1)}, size-2)...)))
		free -= size
	}
	return list(append(rows, last)...)
}

// TestMostNodes: what is wrapped or listed has a node more: at MaxNodes all is well.
func TestMostNodes(t *testing.T) {
	for n := api.MaxNodes - 4; n <= api.MaxNodes; n++ {
		for _, x := range []api.Value{whole(1), null, stamp("x"), num("-0"), list(), pairs()} {
			v := list(slices.Repeat([]api.Value{x}, n-1)...)
			held(t, json, v, true)
			held(t, toml, v, n < api.MaxNodes)
			held(t, toml, of("k", list(v.L[1:]...)), true)
		}
		for _, last := range []api.Value{whole(7), null, stamp("x"), list(), list(whole(7), whole(8)), pairs()} {
			held(t, csv, filled(n, last), n < api.MaxNodes)
		}
		held(t, csv, filled(n, of("b", null)), true)
		if got := value.Size(filled(n, null)); got != n {
			t.Errorf("%d nodes, not %d", got, n)
		}
	}
}

// TestMostDigits: with its point a num has at most MaxDigits bytes; else it is a string, without.
func TestMostDigits(t *testing.T) {
	for _, sign := range []string{"", "-"} {
		for n := api.MaxDigits - 4; n <= api.MaxDigits; n++ {
			s := sign + strings.Repeat("9", n-len(sign))
			if n+2 <= api.MaxDigits {
				fits(t, toml, num(s), of("value", num(s+".0")), ":2 :5")
				fits(t, toml, of("a", list(num(s))), of("a", list(num(s+".0"))), "/a/0:5")
			} else {
				fits(t, toml, num(s), of("value", said(s)), ":2 :6")
				fits(t, toml, of("a", list(num(s))), of("a", list(said(s))), "/a/0:6")
			}
			for _, f := range []int{json, csv} {
				fits(t, f, list(of("a", num(s))), list(of("a", num(s))), "")
			}
			// With a point or an e already, whatever its length.
			for _, done := range []string{s[:n-2] + ".5", s[:n-2] + "e5", s[:n-2] + "E0"} {
				fits(t, toml, of("a", num(done)), of("a", num(done)), "")
			}
		}
		fits(t, toml, of("a", num(sign+strings.Repeat("9", api.MaxDigits+1-len(sign)-3)+".0")), of("a", num(sign+strings.Repeat("9", api.MaxDigits+1-len(sign)-3)+".0")), "")
	}
	unfit(t, toml, num(strings.Repeat("9", api.MaxDigits+1)), api.EARG)
}

// wide is a map of so many keys.
func wide(n int, x api.Value) api.Value {
	m := pairs()
	for i := range n {
		m.M = append(m.M, pair(fmt.Sprintf("k%04d", i), x))
	}
	return m
}

// TestMostColumns: a table has at most MaxCols of them: with one more, nothing can be made of a value.
func TestMostColumns(t *testing.T) {
	most := wide(api.MaxCols, whole(1))
	fits(t, csv, list(most), list(most), "")
	fits(t, csv, most, list(most), ":7")
	unfit(t, csv, list(wide(api.MaxCols+1, whole(1))), api.ELIMIT)
	unfit(t, csv, wide(api.MaxCols+1, whole(1)), api.ELIMIT)
	// `value` is a column, too.
	unfit(t, csv, list(most, whole(1)), api.ELIMIT)
	unfit(t, csv, list(pairs(), most), api.ELIMIT)
	less := wide(api.MaxCols-1, whole(1))
	fits(t, csv, list(less, whole(1), pairs()), list(less, of("value", whole(1)), of("value", null)), "/1:2 /2:8")
	unfit(t, csv, list(less, whole(1), list(whole(1))), api.ELIMIT)
	ones := slices.Repeat([]api.Value{whole(1)}, api.MaxCols)
	fits(t, csv, list(list(ones...)), list(of("value", list(ones...))), "/0:2")
	unfit(t, csv, list(list(append(ones, whole(1))...)), api.ELIMIT)
}

// TestMostRows: a table has at most MaxRows of them.
func TestMostRows(t *testing.T) {
	for _, x := range []api.Value{whole(1), pairs(), of("a", null), list()} {
		for n := api.MaxRows - 1; n <= api.MaxRows+1; n++ {
			held(t, csv, list(slices.Repeat([]api.Value{x}, n)...), n <= api.MaxRows)
			// Of a map of a list, it is the columns that are too many.
			unfit(t, csv, of("k", list(slices.Repeat([]api.Value{x}, n)...)), api.ELIMIT)
		}
	}
}

// TestMostCell: names and cells have at most MaxStr bytes, with what is written ahead of keys and strings.
func TestMostCell(t *testing.T) {
	x := strings.Repeat("x", api.MaxStr)
	for _, c := range []struct {
		v    api.Value
		most bool
	}{
		{said(x), true}, {said("'" + x[1:]), false}, {said("'" + x[2:]), true}, {said("@" + x[1:]), false}, {said(strings.Repeat("9", api.MaxDigits)), true}, {num(strings.Repeat("9", api.MaxDigits)), true},
		{of(x, null), true}, {of("~"+x[1:], null), false}, {of("/"+x[2:], null), true}, {of("~k"+x[2:], null), false}, {of("a", of(x, null)), false}, {of("a", of(x[2:], null)), true}, {of("a", of(x[1:], null)), false}, {of("a", list(said(x))), true},
	} {
		if c.v.Kind != api.Map {
			held(t, csv, of("a", c.v), c.most)
			held(t, csv, list(of("a", whole(1)), c.v), c.most)
		}
		held(t, csv, c.v, c.most)
		held(t, csv, list(c.v), c.most)
		held(t, csv, list(pairs(), whole(1), c.v), c.most)
		for _, f := range []int{json, toml} {
			held(t, f, c.v, true)
		}
	}
	// An element of an element has `value/0` ahead of its keys.
	held(t, csv, list(list(of(x[8:], null))), true)
	held(t, csv, list(list(of(x[7:], null))), false)
	held(t, csv, list(list(said(x))), true)
	held(t, csv, list(list(said("'"+x[1:]))), false)
}

// TestCommonLimits: of a Common list nothing is asked but that it is Good.
func TestCommonLimits(t *testing.T) {
	x := strings.Repeat("x", api.MaxStr)
	for _, c := range []struct {
		v    api.Value
		want bool
	}{
		{list(wide(api.MaxCols, whole(1))), true}, {list(wide(api.MaxCols+1, whole(1))), true}, {list(wide(api.MaxNodes-2, whole(1))), true}, {list(wide(api.MaxNodes-1, whole(1))), false},
		{list(slices.Repeat([]api.Value{of("a", whole(1))}, api.MaxRows+1)...), true}, {list(slices.Repeat([]api.Value{of("a", whole(1))}, api.MaxNodes/2-1)...), true}, {list(slices.Repeat([]api.Value{of("a", whole(1))}, api.MaxNodes/2)...), false},
		{list(of(x, said(x))), true}, {list(of(x+"x", said(x))), false}, {list(of(x, said(x+"x"))), false}, {list(of("\xff", said(x))), false}, {list(of(x, said("\xff"))), false},
	} {
		if loss.Common(c.v) != c.want {
			t.Errorf("P18.1: Common of %s: %v", told(c.v), !c.want)
		}
	}
}

// TestManyNotes: as many notes as there are nodes, in order.
func TestManyNotes(t *testing.T) {
	for _, c := range []struct {
		f    int
		x    api.Value
		want api.Value
		what int
	}{{json, stamp("x"), said("x"), 1}, {toml, null, said("null"), 4}, {toml, num("-0"), num("-0.0"), 5}, {toml, stamp("x"), said("x"), 1}} {
		const n = api.MaxNodes - 2
		v, want, notes := list(slices.Repeat([]api.Value{c.x}, n)...), list(slices.Repeat([]api.Value{c.want}, n)...), []string{}
		for i := range n {
			notes = append(notes, fmt.Sprintf("/a/%d:%d", i, c.what))
		}
		fits(t, c.f, of("a", v), of("a", want), strings.Join(notes, " "))
	}
	const n = api.MaxNodes - 1
	notes := []string{}
	for i := range n {
		notes = append(notes, fmt.Sprintf("/k%04d:3", i))
	}
	fits(t, toml, wide(n, null), pairs(), strings.Join(notes, " "))
}

// TestLongPaths: keys as long as they may be, which their paths tell whole.
func TestLongPaths(t *testing.T) {
	x := strings.Repeat("~", api.MaxStr)
	v, text := stamp("x"), ""
	for range api.MaxDepth - 1 {
		v, text = of(x, v), text+"/"+strings.Repeat("~0", api.MaxStr)
	}
	for _, f := range []int{json, toml} {
		out, notes, e := loss.Fit(f, v)
		if e != api.OK || len(notes) != 1 || notes[0].Path != text || notes[0].What != 1 || !loss.May(f, out) {
			t.Errorf("P18.2: Fit(%d) of a stamp below long keys: %s, %d", f, told(notes), e)
		}
		if p, e := path.Parse(notes[0].Path); e != api.OK || len(p) != api.MaxDepth-1 {
			t.Errorf("P18.2: a note's path is none")
		}
	}
}

// TestGreat: values far beyond every limit are told quickly, whatever is in them.
func TestGreat(t *testing.T) {
	for _, v := range []api.Value{
		inLists(1<<16-1, null), inMaps(1<<16-1, stamp("x")), list(inMaps(1<<16-2, pairs())), list(slices.Repeat([]api.Value{null}, 1<<20)...), wide(1<<17, null), list(list(slices.Repeat([]api.Value{inLists(100, stamp("x"))}, 1<<16)...)),
		said(strings.Repeat("x", 1<<22)), num(strings.Repeat("9", 1<<22)), stamp(strings.Repeat("x", 1<<22)), of(strings.Repeat("x", 1<<22), null),
	} {
		for _, f := range formats {
			got, notes, e := loss.Fit(f, v)
			if e != api.EARG || len(notes) > 0 || !value.Same(got, null) || loss.May(f, v) {
				t.Errorf("P18.2: Fit(%d) of a great value: %d", f, e)
			}
		}
		if loss.Common(v) {
			t.Errorf("P18.1: Common of a great value")
		}
	}
	// A list that is its own element.
	l := make([]api.Value, 1)
	l[0] = list(l...)
	for _, f := range formats {
		if _, _, e := loss.Fit(f, l[0]); e != api.EARG || loss.May(f, l[0]) || loss.Common(l[0]) {
			t.Errorf("P18.2: Fit(%d) of a list in itself: %d", f, e)
		}
	}
}
