package unflat_test

import (
	"fmt"
	"slices"
	"strconv"
	"strings"
	"testing"

	"dragoman/api"
	"dragoman/flat"
	"dragoman/path"
	"dragoman/unflat"
	"dragoman/value"
)

// keyed are so many leaves, each with a key of its own.
func keyed(n int) []flat.Leaf {
	l := make([]flat.Leaf, n)
	for i := range l {
		l[i] = flat.Leaf{Path: steps(key(fmt.Sprintf("k%07d", i))), V: null}
	}
	return l
}

// placed are so many leaves at the places of one list.
func placed(n int) []flat.Leaf {
	l := make([]flat.Leaf, n)
	for i := range l {
		l[i] = flat.Leaf{Path: steps(at(i)), V: null}
	}
	return l
}

// below are leaves whose paths go on behind this one.
func below(p []path.Step, l []flat.Leaf) []flat.Leaf {
	out := make([]flat.Leaf, len(l))
	for i, leaf := range l {
		out[i] = flat.Leaf{Path: slices.Concat(p, leaf.Path), V: leaf.V}
	}
	return out
}

// limited tells that leaves are built just if no limit is passed.
func limited(t *testing.T, l []flat.Leaf, fits bool) {
	t.Helper()
	if !fits {
		unbuilt(t, l, api.ELIMIT, 0)
		return
	}
	v, e, at := unflat.Build(l)
	if e != api.OK || at != 0 || !value.Good(v) || len(flat.Leaves(v)) != len(l) {
		t.Errorf("P17.1: Build(%s): %s, %d at %d", toldLeaves(l), told(v), e, at)
	}
}

// TestMostDepth: a tree MaxDepth deep may be, one deeper may not, be it of keys, places or both.
func TestMostDepth(t *testing.T) {
	for _, pieces := range [][]path.Step{{key("a")}, {at(0)}, {key(""), at(0)}, {at(0), at(0), key("0")}} {
		long := slices.Repeat(pieces, 2*api.MaxDepth)
		for n := 1; n <= api.MaxDepth+3; n++ {
			deep := flat.Leaf{Path: long[:n], V: whole(1)}
			limited(t, []flat.Leaf{deep}, n < api.MaxDepth)
			// The deep one is not the first, and not the last.
			limited(t, below(steps(key("x")), slices.Concat(keyed(2), below(steps(key("y")), []flat.Leaf{deep}), below(steps(key("z")), keyed(1)))), n+2 < api.MaxDepth)
		}
		for _, v := range []api.Value{list(), pairs(), said("x")} {
			limited(t, []flat.Leaf{{Path: long[:api.MaxDepth-1], V: v}}, true)
			limited(t, []flat.Leaf{{Path: long[:api.MaxDepth], V: v}}, false)
		}
	}
}

// TestMostNodes: a tree of MaxNodes nodes may be, one of one more may not.
func TestMostNodes(t *testing.T) {
	const most = api.MaxNodes
	for more := -2; more <= 3; more++ {
		fits := more <= 0
		limited(t, keyed(most-1+more), fits)
		limited(t, placed(most-1+more), fits)
		limited(t, below(steps(key("a"), at(0)), keyed(most-3+more)), fits)
		limited(t, below(steps(at(0), key("a")), placed(most-3+more)), fits)
		limited(t, slices.Concat(below(steps(at(0)), keyed(2000)), below(steps(at(1)), placed(most-2003+more))), fits)
		mixed := slices.Concat(below(steps(key("b")), keyed(1000)), below(steps(key("a")), placed(most-1003+more)))
		slices.Reverse(mixed)
		limited(t, mixed, fits)
	}
	// Few leaves, of which each brings many nodes: 1 + 132 * 31 is 4093.
	l := []flat.Leaf{}
	for i := range 133 {
		l = append(l, flat.Leaf{Path: slices.Concat(steps(at(i)), slices.Repeat(steps(key("a")), api.MaxDepth-2))})
		limited(t, l, i < 132)
	}
	limited(t, append(l[:132:132], below(steps(at(132)), keyed(2))...), true)
	limited(t, append(l[:132:132], below(steps(at(132)), keyed(3))...), false)
}

// TestMostKey: a key of MaxStr bytes may be, one of one more may not, nor one that is no letters; a leaf's
// value neither.
func TestMostKey(t *testing.T) {
	most := strings.Repeat("k", api.MaxStr)
	for _, c := range []struct {
		key  string
		fits bool
	}{{most, true}, {most + "k", false}, {strings.Repeat("\u20ac", api.MaxStr/3), true}, {strings.Repeat("\u20ac", api.MaxStr/3+1), false}, {strings.Repeat("~", api.MaxStr), true}, {"\xff", false}, {"a\xe2\x82", false}, {"\xed\xa0\x80", false}, {"\x00", true}} {
		one := flat.Leaf{Path: steps(key(c.key)), V: null}
		limited(t, []flat.Leaf{one}, c.fits)
		limited(t, append(keyed(2), one), c.fits)
		limited(t, append(keyed(2), below(steps(key("a"), at(0)), []flat.Leaf{one})...), c.fits)
		limited(t, append(keyed(2), below(one.Path, keyed(2))...), c.fits)
		// A place's Key says nothing.
		limited(t, []flat.Leaf{{Path: []path.Step{{Key: c.key, At: 0, Place: true}}}}, true)
	}
	for _, c := range []struct {
		v    api.Value
		fits bool
	}{
		{said(most), true}, {said(most + "k"), false}, {said("\xff"), false}, {num("5"), false}, {num("5.0"), true}, {num("x"), false}, {stamp(""), false}, {stamp(strings.Repeat("x", 64)), true}, {stamp(strings.Repeat("x", 65)), false},
		{api.Value{N: 5}, false}, {api.Value{S: "x"}, false}, {api.Value{Kind: api.Bool, N: 2}, false}, {api.Value{Kind: api.Int, S: "x"}, false}, {api.Value{Kind: api.List, N: 1}, false}, {api.Value{Kind: api.Map, S: "x"}, false}, {api.Value{Kind: 8}, false}, {api.Value{Kind: -1}, false},
	} {
		limited(t, []flat.Leaf{{V: c.v}}, c.fits)
		limited(t, []flat.Leaf{leaf("/b", null), leaf("/a", c.v), leaf("/c", null)}, c.fits)
	}
}

// TestOrderOfErrors: what is wrong with a leaf comes first, then a gap, and a limit behind all.
func TestOrderOfErrors(t *testing.T) {
	deep := flat.Leaf{Path: slices.Repeat(steps(key("a")), api.MaxDepth), V: null}
	odd := flat.Leaf{Path: steps(key("b")), V: num("x")}
	long := flat.Leaf{Path: steps(key(strings.Repeat("k", api.MaxStr+1))), V: null}
	for _, past := range [][]flat.Leaf{{deep}, {odd}, {long}, keyed(api.MaxNodes)} {
		unbuilt(t, past, api.ELIMIT, 0)
		n := len(past)
		unbuilt(t, append(slices.Clone(past), leaf("/z", null), leaf("/z", null)), api.ECLASH, n+1)
		unbuilt(t, append(slices.Clone(past), leaf("/z", null), leaf("/z/y", null)), api.ECLASH, n+1)
		unbuilt(t, append(slices.Clone(past), leaf("", null)), api.ECLASH, n)
		unbuilt(t, append(slices.Clone(past), leaf("/0", null)), api.ECLASH, n)
		unbuilt(t, append(slices.Clone(past), leaf("/z", list(null))), api.EARG, n)
		unbuilt(t, append(slices.Clone(past), leaf("/z/0", null), leaf("/z/2", null)), api.ECLASH, n)
		unbuilt(t, append(leaves("/z/1=1"), past...), api.ECLASH, 0)
		unbuilt(t, append(leaves("/y=1 /z/1=1"), past...), api.ECLASH, 1)
		// The limit is told at 0, wherever it is passed.
		unbuilt(t, append(leaves("/y=1 /z/0=1"), past...), api.ELIMIT, 0)
	}
}

// row is a table of one row: its names, and a cell for all.
func row(names []string, text string) flat.Table {
	return flat.Table{Head: names, Rows: [][]string{slices.Repeat([]string{text}, len(names))}}
}

// names are so many names of columns.
func names(n int) []string {
	all := []string{}
	for i := range n {
		all = append(all, "k"+strconv.Itoa(i))
	}
	return all
}

// good tells that a table is read as a Good list of as many maps, of which the last has as many keys.
func good(t *testing.T, x flat.Table, keys int) {
	t.Helper()
	v, e, row, column := unflat.Unflat(x)
	if e != api.OK || row != 0 || column != 0 || !value.Good(v) || len(v.L) != len(x.Rows) || len(v.L[len(v.L)-1].M) != keys {
		t.Errorf("P17.2: Unflat(%s): %s, %d at %d, %d", told(x), told(v), e, row, column)
	}
}

// TestUnflatDepth: the list is one deeper than its maps: a row past MaxDepth is told there, the list at 0.
func TestUnflatDepth(t *testing.T) {
	for _, piece := range []string{"a/", "0/", "/"} {
		// The name has n steps: its map is n + 1 deep, the list n + 2.
		name := func(n int) string { return "a/" + strings.Repeat(piece, n-2) + "0" }
		const most = api.MaxDepth - 2
		good(t, row([]string{name(most)}, "1"), 1)
		unread(t, row([]string{name(most + 1)}, "1"), api.ELIMIT, 0, 0)
		unread(t, row([]string{name(most + 2)}, "1"), api.ELIMIT, 1, 1)
		for _, n := range []int{most, most + 1, most + 2} {
			x := flat.Table{Head: []string{"b", name(n), "c"}, Rows: [][]string{{"1", "", "2"}, {"", "1", "2"}, {"", "", "2"}}}
			switch n {
			case most:
				good(t, x, 1)
			case most + 1:
				unread(t, x, api.ELIMIT, 0, 0)
				// A later row's fault comes ahead of the list's limit.
				unread(t, flat.Table{Head: x.Head, Rows: append(slices.Clone(x.Rows), []string{"", "", ""})}, api.ECLASH, 4, 0)
				unread(t, flat.Table{Head: x.Head, Rows: append(slices.Clone(x.Rows), []string{"", "", "@"})}, api.ESYNTAX, 4, 3)
			default:
				// At the column of the first leaf, not at that of the deep one.
				unread(t, x, api.ELIMIT, 2, 2)
				x.Rows[1][0] = "1"
				unread(t, x, api.ELIMIT, 2, 1)
			}
			x.Rows = [][]string{{"1", "", ""}}
			good(t, x, 1)
		}
	}
}

// TestUnflatNodes: a row may have MaxNodes nodes, if there were not the list above it.
func TestUnflatNodes(t *testing.T) {
	const most = api.MaxNodes
	good(t, row(names(most-2), "null"), most-2)
	unread(t, row(names(most-1), "null"), api.ELIMIT, 0, 0)
	unread(t, row(names(most), "null"), api.ELIMIT, 1, 1)
	good(t, row(append([]string{"x/y"}, names(most-4)...), "null"), most-3)
	unread(t, row(append([]string{"x/y"}, names(most-3)...), "null"), api.ELIMIT, 0, 0)
	unread(t, row(append([]string{"x/y"}, names(most-2)...), "null"), api.ELIMIT, 1, 1)
	for _, c := range []struct{ rows, columns int }{{most, 1}, {64, 62}, {65, 62}, {2, 2046}, {2, 2047}, {2000, 1}, {most / 2, 1}, {most/2 - 1, 1}, {100, 1000}, {1365, 2}, {1364, 2}} {
		x := flat.Table{Head: names(c.columns)}
		for range c.rows {
			x.Rows = append(x.Rows, slices.Repeat([]string{"7"}, c.columns))
		}
		if 1+c.rows*(c.columns+1) <= most {
			good(t, x, c.columns)
			continue
		}
		unread(t, x, api.ELIMIT, 0, 0)
		// The last row's fault is told ahead of the limit, however far that is passed.
		last := slices.Clone(x.Rows[len(x.Rows)-1])
		last[c.columns-1] = "@"
		unread(t, flat.Table{Head: x.Head, Rows: append(slices.Clone(x.Rows), last)}, api.ESYNTAX, c.rows+1, c.columns)
		unread(t, flat.Table{Head: x.Head, Rows: append(slices.Clone(x.Rows), make([]string, c.columns))}, api.ECLASH, c.rows+1, 0)
		unread(t, flat.Table{Head: x.Head, Rows: append(slices.Clone(x.Rows), nil)}, api.EROW, c.rows+1, 0)
	}
}

// TestNoTableLimit: more columns, rows and longer names than flat's tables have are well, if the list is Good.
func TestNoTableLimit(t *testing.T) {
	good(t, row(names(api.MaxCols+1), "1"), api.MaxCols+1)
	x := flat.Table{Head: []string{"a"}}
	for range api.MaxRows + 1 {
		x.Rows = append(x.Rows, []string{"1"})
	}
	good(t, x, 1)
	k := strings.Repeat("k", api.MaxStr)
	good(t, row([]string{k + "/" + k, strings.Repeat("~0", api.MaxStr)}, "1"), 2)
	unread(t, row([]string{k + "k"}, "1"), api.ELIMIT, 1, 1)
	unread(t, row([]string{"a", strings.Repeat("~0", api.MaxStr) + "k"}, "1"), api.ELIMIT, 1, 1)
}

// TestMostCell: as package cell reads it: MaxStr bytes, without the mark.
func TestMostCell(t *testing.T) {
	x := strings.Repeat("x", api.MaxStr)
	good(t, row([]string{"a"}, x), 1)
	good(t, row([]string{"a"}, "'"+x), 1)
	unread(t, row([]string{"a"}, x+"x"), api.ELIMIT, 1, 1)
	unread(t, row([]string{"a"}, "'"+x+"x"), api.ELIMIT, 1, 1)
	unread(t, flat.Table{Head: []string{"a", "b"}, Rows: [][]string{{"1", ""}, {"", x + "x"}}}, api.ELIMIT, 2, 2)
	good(t, row([]string{"a"}, "@"+x[:64]), 1)
	unread(t, row([]string{"a"}, "@"+x[:65]), api.ESYNTAX, 1, 1)
	good(t, row([]string{"a"}, strings.Repeat("9", api.MaxDigits)), 1)
}

// TestGreat: leaves and tables far beyond every limit are told quickly.
func TestGreat(t *testing.T) {
	both := slices.Repeat(steps(key("a"), at(0)), 1<<18)
	deep := flat.Leaf{Path: both, V: null}
	quiet := func(l []flat.Leaf, want api.Errno, wantAt int) {
		t.Helper()
		if v, e, at := unflat.Build(l); e != want || at != wantAt || !value.Same(v, null) {
			t.Fatalf("P17.1: Build of %d leaves: %d at %d, want %d at %d", len(l), e, at, want, wantAt)
		}
	}
	quiet([]flat.Leaf{deep}, api.ELIMIT, 0)
	quiet([]flat.Leaf{deep, deep}, api.ECLASH, 1)
	quiet([]flat.Leaf{deep, {Path: both[:len(both)-1]}}, api.ECLASH, 1)
	quiet([]flat.Leaf{leaf("/b", null), {Path: append(slices.Clone(both), at(1))}}, api.ECLASH, 1)
	quiet(append(below(steps(key("z")), keyed(1<<17)), leaf("/z/k0000005", null)), api.ECLASH, 1<<17)
	quiet(keyed(1<<17), api.ELIMIT, 0)
	quiet(placed(1<<17), api.ELIMIT, 0)
	quiet(placed(1 << 17)[1:], api.ECLASH, 0)
	// Many leaves at the end of one long way.
	quiet(below(both[:1<<10], keyed(1<<9)), api.ELIMIT, 0)
	// Wide and long tables.
	x := flat.Table{Head: names(1 << 17), Rows: [][]string{make([]string, 1<<17), make([]string, 1<<17)}}
	x.Rows[0][5], x.Rows[1][1<<17-1] = "x", "@"
	unread(t, x, api.ESYNTAX, 2, 1<<17)
	x.Rows[1][1<<17-1] = "x"
	good(t, x, 1)
	x = flat.Table{Head: []string{"a"}, Rows: slices.Repeat([][]string{{"1"}}, 1<<17)}
	unread(t, x, api.ELIMIT, 0, 0)
	unread(t, row([]string{"a/" + strings.Repeat("b/", 1<<16)}, "1"), api.ELIMIT, 1, 1)
}
