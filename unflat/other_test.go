package unflat_test

import (
	"math/rand"
	"regexp"
	"slices"
	"strconv"
	"strings"
	"testing"

	"dragoman/api"
	"dragoman/cell"
	"dragoman/flat"
	"dragoman/jread"
	"dragoman/path"
	"dragoman/unflat"
	"dragoman/value"
)

// same tells whether two steps lead to the same part.
func same(a, b path.Step) bool { return path.Cmp(steps(a), steps(b)) == 0 }

// agree tells whether two paths can be those of two leaves of one tree.
func agree(p, q []path.Step) bool {
	for i := range min(len(p), len(q)) {
		if !same(p[i], q[i]) {
			return p[i].Place == q[i].Place
		}
	}
	return false
}

// noGap tells whether a path's list, above its step n, has the places 0, 1, .. without a gap.
func noGap(l []flat.Leaf, p []path.Step, n int) bool {
	there := map[int]bool{}
	for _, leaf := range l {
		if len(leaf.Path) > n && path.Cmp(leaf.Path[:n], p[:n]) == 0 {
			there[leaf.Path[n].At] = true
		}
	}
	for i := range len(there) {
		if !there[i] {
			return false
		}
	}
	return true
}

// secondBuild holds each two paths against each other, and then lays in leaf by leaf by path's Set.
func secondBuild(l []flat.Leaf) (api.Value, api.Errno, int) {
	for i, leaf := range l {
		if value.Size(leaf.V) > 1 {
			return null, api.EARG, i
		}
		for _, other := range l[:i] {
			if !agree(leaf.Path, other.Path) {
				return null, api.ECLASH, i
			}
		}
	}
	for i, leaf := range l {
		for n, step := range leaf.Path {
			if step.Place && !noGap(l, leaf.Path, n) {
				return null, api.ECLASH, i
			}
		}
	}
	if len(l) == 0 {
		return null, api.EARG, 0
	}
	if v := laid(l); value.Good(v) {
		return v, api.OK, 0
	}
	return null, api.ELIMIT, 0
}

// laid is the tree of leaves that agree and have no gap. By rising paths each list grows at its end.
func laid(l []flat.Leaf) api.Value {
	rising := slices.SortedFunc(slices.Values(l), func(a, b flat.Leaf) int { return path.Cmp(a.Path, b.Path) })
	// Nothing is there yet, and it is none of what a holder may be.
	v := api.Value{Kind: 99}
	for _, leaf := range rising {
		for n, step := range leaf.Path {
			holder := pairs()
			if step.Place {
				holder = list()
			}
			if x, there := path.Get(v, leaf.Path[:n]); !there || x.Kind == 99 {
				v, _ = path.Set(v, leaf.Path[:n], holder)
			}
		}
		v, _ = path.Set(v, leaf.Path, leaf.V)
	}
	return v
}

// What may stand between two strokes of a name.
var (
	aPlace = regexp.MustCompile(`^(0|[1-9][0-9]*)$`)
	aKey   = regexp.MustCompile(`^(~k(0|[1-9][0-9]*)|~k~0k([^~/]|~[01])*|([^~/]|~[01])*)$`)
)

// stepsOf are the steps that a name says; false, if it is none.
func stepsOf(name string) ([]path.Step, bool) {
	out := []path.Step{}
	for piece := range strings.SplitSeq(name, "/") {
		// Past 64 bits it is past 10^9, too.
		if n, e := strconv.Atoi(piece); aPlace.MatchString(piece) {
			if e != nil || n > 1000000000 {
				return nil, false
			}
			out = append(out, at(n))
			continue
		}
		if !aKey.MatchString(piece) || strings.HasPrefix(piece, "~0k") {
			return nil, false
		}
		out = append(out, key(strings.NewReplacer("~0", "~", "~1", "/").Replace(strings.TrimPrefix(piece, "~k"))))
	}
	return out, true
}

// secondUnflat reads a table with no thought of what it costs.
func secondUnflat(x flat.Table) (api.Value, api.Errno, int, int) {
	for i, name := range x.Head {
		if _, ok := stepsOf(name); !ok {
			return null, api.ESYNTAX, 0, i + 1
		}
		if slices.Contains(x.Head[:i], name) {
			return null, api.ETWICE, 0, i + 1
		}
	}
	for i, row := range x.Rows {
		if len(row) != len(x.Head) {
			return null, api.EROW, i + 1, 0
		}
	}
	l := []api.Value{}
	for i, row := range x.Rows {
		v, e, column := secondRow(x.Head, row)
		if e != api.OK {
			return null, e, i + 1, column
		}
		l = append(l, v)
	}
	if !value.Good(list(l...)) {
		return null, api.ELIMIT, 0, 0
	}
	if len(l) == 0 {
		return null, api.EARG, 0, 0
	}
	return list(l...), api.OK, 0, 0
}

// secondRow reads a row.
func secondRow(head, row []string) (api.Value, api.Errno, int) {
	for i, text := range row {
		if _, e := cell.Value(text); e != api.OK && e != api.ENONE {
			return null, e, i + 1
		}
	}
	l, columns := []flat.Leaf{}, []int{}
	for i, text := range row {
		if text != "" {
			v, _ := cell.Value(text)
			p, _ := stepsOf(head[i])
			l, columns = append(l, flat.Leaf{Path: p, V: v}), append(columns, i+1)
		}
	}
	if len(l) == 0 {
		return null, api.ECLASH, 0
	}
	v, e, at := secondBuild(l)
	if e != api.OK {
		return null, e, columns[at]
	}
	if v.Kind != api.Map {
		return null, api.ECLASH, 0
	}
	return v, api.OK, 0
}

// checkBuild holds Build against the second one; a tree's leaves are just those that it was built of.
func checkBuild(t *testing.T, l []flat.Leaf) {
	t.Helper()
	want, e, at := secondBuild(l)
	if e != api.OK {
		unbuilt(t, l, e, at)
		return
	}
	builds(t, l, want)
	rising := slices.SortedFunc(slices.Values(l), func(a, b flat.Leaf) int { return path.Cmp(a.Path, b.Path) })
	got, _, _ := unflat.Build(l)
	if !slices.EqualFunc(flat.Leaves(got), rising, func(a, b flat.Leaf) bool { return path.Cmp(a.Path, b.Path) == 0 && value.Same(a.V, b.V) }) {
		t.Errorf("P17.1: Build(%s) has the leaves %s", toldLeaves(l), toldLeaves(flat.Leaves(got)))
	}
}

// check holds Unflat against the second one; a list's table is read back.
func check(t *testing.T, x flat.Table) {
	t.Helper()
	want, e, row, column := secondUnflat(x)
	if e != api.OK {
		unread(t, x, e, row, column)
		return
	}
	reads(t, x, want)
	if again, e := flat.Flat(want); e == api.OK {
		reads(t, again, want)
	}
}

// The second ones are right themselves.
func TestSecond(t *testing.T) {
	for s, want := range trees {
		if v, e, at := secondBuild(leaves(s)); e != api.OK || at != 0 || !value.Same(v, read(t, want)) {
			t.Errorf("the second tree of %s: %s, %d at %d", s, told(v), e, at)
		}
		checkBuild(t, leaves(s))
	}
	for _, c := range clashes {
		if v, e, at := secondBuild(leaves(c.leaves)); e != api.ECLASH || at != c.at {
			t.Errorf("the second tree of %s: %s, %d at %d", c.leaves, told(v), e, at)
		}
	}
	for s, want := range lists {
		if v, e, row, column := secondUnflat(table(s)); e != api.OK || row != 0 || column != 0 || !value.Same(v, read(t, want)) {
			t.Errorf("the second list of %s: %s, %d at %d, %d", s, told(v), e, row, column)
		}
		check(t, table(s))
	}
	for _, c := range wrongs {
		if v, e, row, column := secondUnflat(table(c.table)); e != c.e || row != c.row || column != c.column {
			t.Errorf("the second list of %s: %s, %d at %d, %d", c.table, told(v), e, row, column)
		}
	}
}

// everyPath are all paths of at most so many of these steps.
func everyPath(most int, of ...path.Step) [][]path.Step {
	all := [][]path.Step{{}}
	for from := 0; most > 0; most-- {
		longest := all[from:]
		from = len(all)
		for _, p := range longest {
			for _, step := range of {
				all = append(all, append(slices.Clone(p), step))
			}
		}
	}
	return all
}

// everyFew holds Build of all lists of at most so many leaves with such paths.
func everyFew(t *testing.T, l []flat.Leaf, most int, paths [][]path.Step) {
	checkBuild(t, l)
	if len(l) == most {
		return
	}
	for _, p := range paths {
		everyFew(t, append(l[:len(l):len(l)], flat.Leaf{Path: p, V: whole(int64(len(l)))}), most, paths)
	}
}

// Few leaves, with all short paths.
func TestEveryFew(t *testing.T) {
	everyFew(t, nil, 2, everyPath(3, key("a"), key("b"), key("0"), at(0), at(1)))
	everyFew(t, nil, 3, everyPath(2, key("a"), key("0"), at(0), at(1), at(2)))
	everyFew(t, nil, 3, everyPath(3, key("a"), at(0), at(1)))
	everyFew(t, nil, 4, everyPath(2, key("a"), at(0), at(1)))
	everyFew(t, nil, 4, everyPath(1, key("a"), key("b"), key("c"), at(-1), at(0), at(1), at(2), at(3)))
}

// everyRow are all rows of so many cells.
func everyRow(n int, of ...string) [][]string {
	all := [][]string{{}}
	for range n {
		longer := [][]string{}
		for _, row := range all {
			for _, text := range of {
				longer = append(longer, append(slices.Clone(row), text))
			}
		}
		all = longer
	}
	return all
}

// Small tables, with all names, cells and lengths of rows.
func TestEverySmallTable(t *testing.T) {
	names := []string{"", "a", "a/0", "a/1", "a/b", "0", "~k0", "~"}
	for _, head := range everyRow(3, names...) {
		for _, row := range everyRow(3, "", "1", "[]", "@") {
			check(t, flat.Table{Head: head, Rows: [][]string{row}})
		}
	}
	for _, head := range everyRow(2, names...) {
		check(t, flat.Table{Head: head})
		rows := slices.Concat(everyRow(2, "", "1", "@"), everyRow(1, "1", ""), [][]string{nil, {"1", "2", "3"}})
		for _, row := range rows {
			for _, next := range rows {
				check(t, flat.Table{Head: head, Rows: [][]string{row, next}})
			}
		}
	}
	for _, row := range everyRow(5, "", "1") {
		for _, head := range everyRow(2, "a/2", "a/2/0", "a/2/x", "b") {
			check(t, flat.Table{Head: append([]string{"b/0", "a/0", "a/1"}, head...), Rows: [][]string{{"1", "", "", "", ""}, row}})
		}
	}
}

// Each byte in names and cells.
func TestEveryByte(t *testing.T) {
	for b := range 256 {
		x := string([]byte{byte(b)})
		for _, s := range []string{x, x + "a", "a" + x, "~" + x, "~k" + x, "~k0" + x, "~0" + x, "0" + x, "1" + x, x + "0", x + "~0", "/" + x, x + "/", x + "/" + x, "~k~0k" + x, "~k~" + x, "100000000" + x, "1000000000" + x} {
			check(t, flat.Table{Head: []string{s, "a!"}, Rows: [][]string{{"1", ""}, {"1", "2"}}})
			check(t, flat.Table{Head: []string{"a!", "b/" + s}, Rows: [][]string{{"1", "2"}}})
			check(t, flat.Table{Head: []string{"a", "b"}, Rows: [][]string{{"1", s}, {s, s}}})
			check(t, flat.Table{Head: []string{s, x}, Rows: [][]string{{s, x}}})
			check(t, flat.Table{Head: []string{"a", x}, Rows: [][]string{{"", s}, {s, x}}})
			checkBuild(t, []flat.Leaf{{Path: steps(key(s), key(x)), V: said(s)}, {Path: steps(key(x), key(s)), V: said("")}})
		}
	}
}

// grow is a Good value.
func grow(random *rand.Rand, depth int) api.Value {
	leaves := []api.Value{null, {Kind: api.Bool}, {Kind: api.Bool, N: 1}, whole(0), whole(-7), num("1.50"), num("-0"), said(""), said("x"), said("'"), said("null"), said("a,b"), said("\u20ac"), stamp("2020-01-01"), list(), pairs()}
	kind := random.Intn(3)
	if depth == 0 || kind == 0 {
		return leaves[random.Intn(len(leaves))]
	}
	if kind == 1 {
		l := []api.Value{}
		for range random.Intn(4) {
			l = append(l, grow(random, depth-1))
		}
		return list(l...)
	}
	return growMap(random, depth, random.Intn(4))
}

// growMap is a Good map of so many keys.
func growMap(random *rand.Rand, depth, n int) api.Value {
	names := []string{"", "0", "1", "00", "10", "a", "a!", "aa", "a/b", "b", "~", "~k", "~k0", "\u20ac", ","}
	m := []api.Pair{}
	for _, i := range random.Perm(len(names))[:n] {
		m = append(m, pair(names[i], grow(random, depth-1)))
	}
	slices.SortFunc(m, func(a, b api.Pair) int { return strings.Compare(a.Key, b.Key) })
	return pairs(m...)
}

// spoiltLeaves are leaves of which one is altered, doubled, dropped or added.
func spoiltLeaves(random *rand.Rand, l []flat.Leaf) []flat.Leaf {
	l = slices.Clone(l)
	i := random.Intn(len(l))
	odd := []path.Step{key("a"), key(""), key("0"), at(0), at(1), at(2), at(7), at(-1), key("\xff")}
	step := odd[random.Intn(len(odd))]
	p := slices.Clone(l[i].Path)
	switch random.Intn(7) {
	case 0:
		return slices.Delete(l, i, i+1)
	case 1:
		return slices.Insert(l, random.Intn(len(l)+1), l[i])
	case 2:
		l[i].Path = append(p, step)
	case 3:
		if len(p) > 0 {
			p[random.Intn(len(p))] = step
		}
		l[i].Path = p
	case 4:
		return slices.Insert(l, random.Intn(len(l)+1), flat.Leaf{Path: append(p[:random.Intn(len(p)+1)], step), V: null})
	case 5:
		values := []api.Value{list(null), pairs(pair("a", null)), num("5"), {Kind: 9}, {N: 1}}
		l[i].V = values[random.Intn(len(values))]
	case 6:
		l[i].Path = p[:random.Intn(len(p)+1)]
	}
	return l
}

// TestGrownLeaves: a tree is built of its leaves, in any order; spoilt ones are what the second says.
func TestGrownLeaves(t *testing.T) {
	random := rand.New(rand.NewSource(17))
	built := 0
	for range 10000 {
		v := grow(random, 5)
		l := flat.Leaves(v)
		builds(t, l, v)
		random.Shuffle(len(l), func(i, j int) { l[i], l[j] = l[j], l[i] })
		builds(t, l, v)
		for range 3 {
			if len(l) == 0 || len(l) > 60 {
				break
			}
			l = spoiltLeaves(random, l)
			checkBuild(t, l)
		}
		if _, e, _ := unflat.Build(l); e == api.OK {
			built++
		}
	}
	if built < 500 || built > 9000 {
		t.Errorf("of 10000 spoilt trees %d are built", built)
	}
}

// growTable is the table of a grown list, and that list.
func growTable(random *rand.Rand) (flat.Table, api.Value) {
	for {
		l := []api.Value{}
		for range 1 + random.Intn(4) {
			l = append(l, growMap(random, 1+random.Intn(4), 1+random.Intn(3)))
		}
		if x, e := flat.Flat(list(l...)); e == api.OK {
			return x, list(l...)
		}
	}
}

// turned is a table with its columns in another order.
func turned(random *rand.Rand, x flat.Table) flat.Table {
	order := random.Perm(len(x.Head))
	turn := func(row []string) []string {
		out := []string{}
		for _, i := range order {
			out = append(out, row[i])
		}
		return out
	}
	out := flat.Table{Head: turn(x.Head)}
	for _, row := range x.Rows {
		out.Rows = append(out.Rows, turn(row))
	}
	return out
}

// spoiltTable is a table with one thing altered.
func spoiltTable(random *rand.Rand, x flat.Table) flat.Table {
	out := flat.Table{Head: slices.Clone(x.Head)}
	for _, row := range x.Rows {
		out.Rows = append(out.Rows, slices.Clone(row))
	}
	names := []string{"", "a", "b", "0", "1", "~", "a/0", "a/1", "a/b", "~k0", "00", "\xff"}
	cells := []string{"", "", "1", "x", "@", "\xff", "[]", "{}"}
	column := random.Intn(len(out.Head))
	row := random.Intn(len(out.Rows))
	switch random.Intn(8) {
	case 0:
		out.Head[column] = names[random.Intn(len(names))]
	case 1:
		out.Head[column] += "/" + names[random.Intn(len(names))]
	case 2:
		out.Rows[row] = append(out.Rows[row], cells[random.Intn(len(cells))])
	case 3:
		out.Rows[row] = out.Rows[row][:random.Intn(len(out.Rows[row])+1)]
	case 4:
		out.Head[column] = out.Head[random.Intn(len(out.Head))]
	case 5:
		out.Rows[row] = make([]string, len(out.Head))
	default:
		if len(out.Rows[row]) > column {
			out.Rows[row][column] = cells[random.Intn(len(cells))]
		}
	}
	return out
}

// TestGrownTables: a list is read back from its table, in whatever order the columns stand; spoilt tables are
// what the second says.
func TestGrownTables(t *testing.T) {
	random := rand.New(rand.NewSource(18))
	told := map[api.Errno]int{}
	for range 4000 {
		x, v := growTable(random)
		reads(t, x, v)
		x = turned(random, x)
		reads(t, x, v)
		for range 4 {
			x = spoiltTable(random, x)
			check(t, x)
			_, e, _, _ := unflat.Unflat(x)
			told[e]++
		}
	}
	for _, e := range []api.Errno{api.OK, api.ESYNTAX, api.ETWICE, api.EROW, api.ECLASH, api.EUTF, api.ELIMIT} {
		if told[e] < 20 {
			t.Errorf("of 16000 spoilt tables only %d are told %d", told[e], e)
		}
	}
}

func FuzzText(f *testing.F) {
	for s := range lists {
		f.Add(s)
	}
	for _, c := range wrongs {
		f.Add(c.table)
	}
	for s, want := range trees {
		f.Add(strings.ReplaceAll(s, " ", "|"))
		f.Add(want)
	}
	f.Fuzz(func(t *testing.T, s string) {
		x := table(s)
		if len(s) > 4096 || len(x.Head) > 100 {
			return
		}
		check(t, x)
		l := []flat.Leaf{}
		for name := range strings.SplitSeq(s, "|") {
			where, text, _ := strings.Cut(name, "=")
			v, _ := cell.Value(text)
			if p, e := path.Parse(where); e == api.OK {
				l = append(l, flat.Leaf{Path: p, V: v})
			}
		}
		checkBuild(t, l)
		if v, fault := jread.Parse(s); fault.Err == api.OK {
			l := flat.Leaves(v)
			builds(t, l, v)
			slices.Reverse(l)
			builds(t, l, v)
			if x, e := flat.Flat(v); e == api.OK {
				reads(t, x, v)
			}
		}
	})
}
