package flat_test

import (
	"fmt"
	"slices"
	"strconv"
	"strings"
	"testing"

	"dragoman/api"
	"dragoman/flat"
	"dragoman/path"
	"dragoman/value"
)

// one is a map of one key.
func one(name string, v api.Value) api.Value { return pairs(pair(name, v)) }

// keys are so many keys, by rising bytes, of which the first has this number.
func keys(from, n int) []string {
	all := []string{}
	for i := range n {
		all = append(all, fmt.Sprintf("k%05d", from+i))
	}
	return all
}

// mapOf is a map of these keys.
func mapOf(names []string, v api.Value) api.Value {
	m := []api.Pair{}
	for _, name := range names {
		m = append(m, pair(name, v))
	}
	return pairs(m...)
}

// many are so many of one value.
func many(n int, v api.Value) []api.Value { return slices.Repeat([]api.Value{v}, n) }

// sized tells that of a value a table of so many columns and rows is made.
func sized(t *testing.T, v api.Value, columns, rows int) {
	t.Helper()
	table, e := flat.Flat(v)
	if e != api.OK || len(table.Head) != columns || len(table.Rows) != rows {
		t.Errorf("P16.1: Flat(%s): %d columns, %d rows, %d, want %d, %d", told(v), len(table.Head), len(table.Rows), e, columns, rows)
	}
}

// good tells that values are Good, so that only a table's limits are asked for.
func good(t *testing.T, all ...api.Value) {
	t.Helper()
	for _, v := range all {
		if !value.Good(v) {
			t.Fatalf("a value that is not Good: %s", told(v))
		}
	}
}

// TestMostColumns: MaxCols columns may be, one more may not, be they of one map or of many.
func TestMostColumns(t *testing.T) {
	const most = api.MaxCols
	for _, build := range []func(n int) api.Value{
		func(n int) api.Value { return list(mapOf(keys(0, n), whole(1))) },
		func(n int) api.Value { return list(one("a", list(many(n, null)...))) },
		func(n int) api.Value { return list(one("a", mapOf(keys(0, n), list()))) },
		func(n int) api.Value { return list(one("a", list(many(n, one("b", null))...))) },
		// The last one in a map of its own, or in one of two.
		func(n int) api.Value { return list(mapOf(keys(0, n-1), whole(1)), one("a", null)) },
		func(n int) api.Value { return list(one("z", null), mapOf(keys(0, n-1), whole(1)), one("z", null)) },
		func(n int) api.Value { return list(one("a", null), one("a", list(many(n-1, null)...))) },
		func(n int) api.Value { return list(mapOf(keys(0, n/2), null), mapOf(keys(n/2, n-n/2), null)) },
		// Many maps have the same: each counts once.
		func(n int) api.Value { return list(many(20, mapOf(keys(0, n), whole(1)))...) },
		func(n int) api.Value {
			return list(mapOf(keys(0, n), null), mapOf(keys(1, n-1), null), mapOf(keys(0, n-1), null))
		},
		// Each map has one of its own.
		func(n int) api.Value {
			l := []api.Value{}
			for _, name := range keys(0, n) {
				l = append(l, one(name, whole(1)))
			}
			slices.Reverse(l)
			return list(l...)
		},
	} {
		for _, n := range []int{2, most - 1, most} {
			good(t, build(n))
			sized(t, build(n), n, len(build(n).L))
		}
		for _, n := range []int{most + 1, most + 2, 2 * most} {
			good(t, build(n))
			refuses(t, build(n), api.ELIMIT)
		}
	}
	refuses(t, list(one("a", list(many(4000, null)...))), api.ELIMIT)
}

// TestMostRows: MaxRows maps may be, one more may not.
func TestMostRows(t *testing.T) {
	const most = api.MaxRows
	for _, v := range []api.Value{one("a", whole(1)), one("", list()), one("a", one("b", list(null))), mapOf(keys(0, 6), whole(1))} {
		for _, n := range []int{1, most - 1, most} {
			all := list(many(n, v)...)
			good(t, all)
			sized(t, all, len(flat.Leaves(v)), n)
		}
		for _, n := range []int{most + 1, most + 2} {
			all := list(many(n, v)...)
			good(t, all)
			refuses(t, all, api.ELIMIT)
		}
	}
	// Both at their limits.
	l := []api.Value{}
	for i := range most {
		l = append(l, one("k"+strconv.Itoa(i%api.MaxCols), whole(int64(i))))
	}
	sized(t, list(l...), api.MaxCols, most)
}

// TestMostName: a column's name of MaxStr bytes may be, one of one more may not. The bytes of path's Text
// count, all but the first stroke.
func TestMostName(t *testing.T) {
	const most = api.MaxStr
	k := strings.Repeat("k", most)
	nines := strings.Repeat("9", most)
	for _, c := range []struct {
		v    api.Value
		name int // its bytes
	}{
		{one(k, whole(1)), most},
		{one(strings.Repeat("\u20ac", most/3)+"k", whole(1)), most},
		{one(k[:most-2], list(whole(1))), most},
		{one(k[:most-2], one("k", whole(1))), most},
		{one(k[:most-1], one("", whole(1))), most},
		{one("", one(k[:most-1], whole(1))), most},
		{one(k[:2000], one(k[:2095], whole(1))), most},
		{one(strings.Repeat("~", most/2), whole(1)), most},
		{one(strings.Repeat("/", most/2), whole(1)), most},
		{one(k[:most-2]+"~", whole(1)), most},
		{one(nines[:most-2], whole(1)), most},
		{one("0"+nines[:most-1], whole(1)), most},
		{one("~k"+k[:most-5], whole(1)), most},
		{one("a", one("", one("0", list(one(k[:most-9], list()))))), most},
		// Past it.
		{one(k[:most-1], list(whole(1))), most + 1},
		{one(k[:most-1], one("k", whole(1))), most + 1},
		{one(k[:most-1], one("", one("", whole(1)))), most + 1},
		{one("a", one(k[:most-1], whole(1))), most + 1},
		{one(k, one("", whole(1))), most + 1},
		{one("", one(k, whole(1))), most + 1},
		{one(strings.Repeat("~", most/2+1), whole(1)), most + 2},
		{one(strings.Repeat("/", most/2)+"k", whole(1)), most + 1},
		{one(k[:most-1]+"~", whole(1)), most + 1},
		{one(nines[:most-1], whole(1)), most + 1},
		{one("~k"+k[:most-4], whole(1)), most + 1},
		{one(k, one(k, whole(1))), 2*most + 1},
		{one(strings.Repeat("~", most), one(nines, whole(1))), 3*most + 3},
	} {
		good(t, c.v)
		leaf := flat.Leaves(c.v)[0]
		if n := len(path.Text(leaf.Path)) - 1; n != c.name {
			t.Fatalf("a name of %d bytes, not %d: %s", n, c.name, told(c.v))
		}
		for _, v := range []api.Value{list(c.v), list(one("a!", null), c.v), list(c.v, one("a!", null), c.v)} {
			if c.name > most {
				refuses(t, v, api.ELIMIT)
				continue
			}
			table, e := flat.Flat(v)
			if e != api.OK || !slices.Contains(table.Head, path.Text(leaf.Path)[1:]) {
				t.Errorf("P16.1: Flat of a name of %d bytes: %d columns, %d", c.name, len(table.Head), e)
			}
		}
	}
}

// TestMostCell: a cell of MaxStr bytes may be, one of one more may not: its mark counts.
func TestMostCell(t *testing.T) {
	const most = api.MaxStr
	x := strings.Repeat("x", most)
	// None of them needs a mark.
	for _, s := range []string{x, strings.Repeat("\u20ac", most/3) + "x", strings.Repeat(" ", most), strings.Repeat("5", most), "x" + strings.Repeat("'", most-1), x[1:] + "@"} {
		good(t, list(one("a", said(s))))
		flattens(t, list(one("a", said(s))), "a;"+s)
		flattens(t, list(one("b", null), one("a", list(said(s), said(s)))), "a/0|a/1|b;||null;"+s+"|"+s+"|")
	}
	for _, mark := range []string{"'", "@"} {
		fits, above := mark+x[2:], mark+x[1:]
		good(t, list(one("a", said(above))))
		flattens(t, list(one("a", said(fits))), "a;'"+fits)
		flattens(t, list(one("a", said(fits)), one("a", null)), "a;'"+fits+";null")
		for _, v := range []api.Value{
			list(one("a", said(above))), list(one("a", list(said(above)))), list(one("a", one("b", list(one("c", said(above)))))),
			list(pairs(pair("a", null), pair("b", said(above)))), list(pairs(pair("a", said(above)), pair("b", null))),
			list(one("a", null), one("a", said(above))), list(one("a", said(above)), one("a", null)), list(one("a", null), one("b", said(above)), one("c", null)),
		} {
			good(t, v)
			refuses(t, v, api.ELIMIT)
		}
	}
	flattens(t, list(one("a", said(strings.Repeat("'", most-1)))), "a;"+strings.Repeat("'", most))
	refuses(t, list(one("a", said(strings.Repeat("'", most)))), api.ELIMIT)
	// A name and a cell at their limits.
	flattens(t, list(one(x, said(x))), x+";"+x)
}

// TestOrderOfErrors: what is no list of maps is told ahead of what is past a table's limits.
func TestOrderOfErrors(t *testing.T) {
	x := strings.Repeat("x", api.MaxStr)
	for _, past := range [][]api.Value{
		{mapOf(keys(0, api.MaxCols+1), null)},
		many(api.MaxRows+1, one("a", null)),
		{one(x, list(null))},
		{one("a", said("'"+x[1:]))},
	} {
		refuses(t, list(past...), api.ELIMIT)
		for _, other := range []api.Value{null, pairs(), list(), one("a", num("5")), one("\xff", null), one(x+"x", null), one("a", said(x+"x"))} {
			refuses(t, list(append(slices.Clone(past), other)...), api.EARG)
			refuses(t, list(append([]api.Value{other}, past...)...), api.EARG)
		}
	}
}

// TestMostNodes: past the limits of values there is no Good list, whatever a table could hold.
func TestMostNodes(t *testing.T) {
	// A list of 60 maps of 64 keys has 1 + 60 * 65 nodes; the rest is for the last one.
	l := many(60, mapOf(keys(0, api.MaxCols), null))
	rest := api.MaxNodes - 1 - 60*65
	for more := range 3 {
		v := list(append(slices.Clone(l), mapOf(keys(0, 64), null), mapOf(keys(0, 64), null), mapOf(keys(0, rest-2*65-1+more), null))...)
		if n := value.Size(v); n != api.MaxNodes+more {
			t.Fatalf("a value of %d nodes, not %d", n, api.MaxNodes+more)
		}
		if more == 0 {
			sized(t, v, api.MaxCols, 63)
			continue
		}
		refuses(t, v, api.EARG)
	}
	deep := null
	for range api.MaxDepth - 3 {
		deep = list(deep)
	}
	good(t, list(one("a", deep)))
	flattens(t, list(one("a", deep)), "a"+strings.Repeat("/0", api.MaxDepth-3)+";null")
	refuses(t, list(one("a", list(deep))), api.EARG)
	refuses(t, list(one("a", null), one("a", one("b", deep))), api.EARG)
}

// TestGreat: trees far beyond every limit are told quickly: Leaves tells no more than their leaves.
func TestGreat(t *testing.T) {
	deep, depth := null, 1<<16-1
	for i := range depth {
		if i%2 == 0 {
			deep = list(deep)
		} else {
			deep = one("a", deep)
		}
	}
	leaves := flat.Leaves(deep)
	if len(leaves) != 1 || len(leaves[0].Path) != depth || leaves[0].Path[0] != at(0) || leaves[0].Path[1] != key("a") || leaves[0].Path[depth-1] != at(0) || !value.Same(leaves[0].V, null) {
		t.Fatalf("P16.1: Leaves of a deep tree: %d leaves", len(leaves))
	}
	// Not told if it fails: telling it would go as deep.
	for _, v := range []api.Value{deep, list(deep), list(one("a", deep))} {
		if table, e := flat.Flat(v); e != api.EARG || len(table.Head)+len(table.Rows) > 0 {
			t.Fatalf("P16.1: Flat of a deep tree: %d", e)
		}
	}
	wide := list(many(1<<20, null)...)
	leaves = flat.Leaves(wide)
	if len(leaves) != 1<<20 || !slices.Equal(leaves[1<<20-1].Path, steps(at(1<<20-1))) {
		t.Fatalf("P16.1: Leaves of a wide list: %d leaves", len(leaves))
	}
	refuses(t, wide, api.EARG)
	refuses(t, list(many(1<<20, one("a", null))...), api.EARG)
	refuses(t, list(one("a", wide)), api.EARG)
}

// TestLongPaths: names far past the limit are refused quickly, however many they are and however much of
// them is alike.
func TestLongPaths(t *testing.T) {
	under := func(v api.Value) api.Value {
		for range api.MaxDepth - 3 {
			// Texts of their own, so that none is known to be alike by where it lies.
			v = one(strings.Repeat("~", api.MaxStr), v)
		}
		return v
	}
	l := []api.Value{}
	for range 40 {
		l = append(l, under(list(many(api.MaxCols, null)...)))
	}
	good(t, list(l...))
	refuses(t, list(l...), api.ELIMIT)
	v := list(under(list(many(1900, null)...)), under(list(many(1900, null)...)))
	good(t, v)
	refuses(t, v, api.ELIMIT)
}
