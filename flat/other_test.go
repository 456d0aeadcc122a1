package flat_test

import (
	"maps"
	"math/rand"
	"reflect"
	"slices"
	"strconv"
	"strings"
	"testing"

	"dragoman/api"
	"dragoman/cell"
	"dragoman/flat"
	"dragoman/jread"
	"dragoman/path"
	"dragoman/value"
)

// secondLeaves takes all paths but those that the next one goes on behind.
func secondLeaves(v api.Value) []flat.Leaf {
	all := path.All(v)
	leaves := []flat.Leaf{}
	for i, p := range all {
		if i+1 < len(all) && len(all[i+1]) > len(p) {
			continue
		}
		x := v
		for _, step := range p {
			if step.Place {
				x = x.L[step.At]
			} else {
				// Only maps that have each key once come here.
				x, _ = value.Get(x, step.Key)
			}
		}
		leaves = append(leaves, flat.Leaf{Path: p, V: x})
	}
	return leaves
}

// union is a tree of all paths of some maps: which maps have a leaf here, with its cell, and what is below.
type union struct {
	cells  map[int]string
	places map[int]*union
	keys   map[string]*union
}

// under is what is below a step; it is made, if it is not there yet.
func under[K comparable](below map[K]*union, step K) *union {
	if below[step] == nil {
		below[step] = &union{map[int]string{}, map[int]*union{}, map[string]*union{}}
	}
	return below[step]
}

// lay lays a map's parts into the union.
func (u *union) lay(v api.Value, row int) {
	for i, x := range v.L {
		under(u.places, i).lay(x, row)
	}
	for _, p := range v.M {
		under(u.keys, p.Key).lay(p.V, row)
	}
	if len(v.L)+len(v.M) == 0 {
		u.cells[row], _ = cell.Text(v)
	}
}

// columns tells the columns below a name, by their names, and the cells that they have.
func (u *union) columns(name string) ([]string, []map[int]string) {
	names, cells := []string{}, []map[int]string{}
	if len(u.cells) > 0 {
		names, cells = append(names, name), append(cells, u.cells)
	}
	more := func(below *union, step string) {
		n, c := below.columns(name + "/" + step)
		names, cells = append(names, n...), append(cells, c...)
	}
	for _, place := range slices.Sorted(maps.Keys(u.places)) {
		more(u.places[place], strconv.Itoa(place))
	}
	for _, k := range slices.Sorted(maps.Keys(u.keys)) {
		more(u.keys[k], stepText(k))
	}
	return names, cells
}

// stepText writes a key byte by byte, as chapter 5 says it.
func stepText(k string) string {
	out := ""
	if n, err := strconv.ParseUint(k, 10, 64); err == nil && strconv.FormatUint(n, 10) == k || len(k) > 1 && k[:2] == "~k" {
		out = "~k"
	}
	for i := range len(k) {
		switch k[i] {
		case '~':
			out += "~0"
		case '/':
			out += "~1"
		default:
			out += k[i : i+1]
		}
	}
	return out
}

// second makes a table column by column: it lays all maps over one another first.
func second(v api.Value) (flat.Table, api.Errno) {
	all := &union{map[int]string{}, map[int]*union{}, map[string]*union{}}
	for i, m := range v.L {
		if m.Kind != api.Map || len(m.M) == 0 {
			return flat.Table{}, api.EARG
		}
		all.lay(m, i)
	}
	if !value.Good(v) || v.Kind != api.List || len(v.L) == 0 {
		return flat.Table{}, api.EARG
	}
	names, cells := all.columns("")
	long := 0
	t := flat.Table{Rows: make([][]string, len(v.L))}
	for i, name := range names {
		t.Head = append(t.Head, name[1:])
		long = max(long, len(name)-1)
		for row := range v.L {
			t.Rows[row] = append(t.Rows[row], cells[i][row])
			long = max(long, len(cells[i][row]))
		}
	}
	if len(names) > 64 || len(v.L) > 512 || long > 4096 {
		return flat.Table{}, api.ELIMIT
	}
	return t, api.OK
}

// branch is a tree that grows leaf by leaf: what is below each piece of a column's name, or a cell.
type branch struct {
	below map[string]*branch
	cell  string
}

// back reads a table's rows back.
func back(t *testing.T, table flat.Table) api.Value {
	t.Helper()
	l := []api.Value{}
	for _, row := range table.Rows {
		root := &branch{}
		for i, text := range row {
			if text == "" {
				continue
			}
			b := root
			for piece := range strings.SplitSeq(table.Head[i], "/") {
				if b.below == nil {
					b.below = map[string]*branch{}
				}
				if b.below[piece] == nil {
					b.below[piece] = &branch{}
				}
				b = b.below[piece]
			}
			b.cell = text
		}
		l = append(l, root.value(t))
	}
	return list(l...)
}

// value is what a branch says: a list, if what is below it are places.
func (b *branch) value(t *testing.T) api.Value {
	t.Helper()
	if b.below == nil {
		v, e := cell.Value(b.cell)
		if e != api.OK {
			t.Errorf("P16.1: a cell that is no value: %q, %d", b.cell, e)
		}
		return v
	}
	l, m := make([]api.Value, len(b.below)), []api.Pair{}
	for piece, below := range b.below {
		p, e := path.Parse("/" + piece)
		if e != api.OK || len(p) != 1 || b.cell != "" {
			t.Errorf("P16.1: a name's piece that is no step: %q, %d; or a cell beside it: %q", piece, e, b.cell)
			continue
		}
		if p[0].Place {
			l[p[0].At] = below.value(t)
		} else {
			m = append(m, pair(p[0].Key, below.value(t)))
		}
	}
	if len(m) == 0 {
		return list(l...)
	}
	slices.SortFunc(m, func(a, b api.Pair) int { return strings.Compare(a.Key, b.Key) })
	return pairs(m...)
}

// check holds Leaves and Flat of a value against the others; a table is read back.
func check(t *testing.T, v api.Value) {
	t.Helper()
	if got, want := flat.Leaves(v), secondLeaves(v); !sameLeaves(got, want) {
		t.Errorf("P16.1: Leaves(%s): %s, want %s", told(v), told(leavesText(got)), told(leavesText(want)))
	}
	want, wrong := second(v)
	if wrong != api.OK {
		refuses(t, v, wrong)
		return
	}
	flattens(t, v, tableText(want))
	got, _ := flat.Flat(v)
	if !reflect.DeepEqual(got, want) {
		t.Errorf("P16.1: Flat(%s): %s, want %s", told(v), told(got), told(want))
	}
	if again := back(t, got); !value.Same(again, v) {
		t.Errorf("P16.1: Flat(%s) is read back as %s", told(v), told(again))
	}
	checkColumns(t, v, got)
}

// checkColumns holds a table's cells against what stands at its columns' paths: a cell is filled just where
// a map has a part without parts.
func checkColumns(t *testing.T, v api.Value, table flat.Table) {
	t.Helper()
	columns := [][]path.Step{}
	for i, name := range table.Head {
		p, e := path.Parse("/" + name)
		if e != api.OK || len(p) == 0 || i > 0 && path.Cmp(columns[i-1], p) >= 0 {
			t.Errorf("P16.1: Flat(%s) has the name %q, %d, behind %q", told(v), name, e, table.Head[:i])
		}
		columns = append(columns, p)
		filled := false
		for row, m := range v.L {
			x, ok := path.Get(m, p)
			text, leaf := cell.Text(x)
			if want := ok && leaf; table.Rows[row][i] != "" != want || want && table.Rows[row][i] != text {
				t.Errorf("P16.1: Flat(%s) has the cell %q in column %q of row %d", told(v), table.Rows[row][i], name, row)
			}
			filled = filled || ok && leaf
		}
		if !filled {
			t.Errorf("P16.1: Flat(%s) has the empty column %q", told(v), name)
		}
	}
}

// The second table-maker is right itself.
func TestSecond(t *testing.T) {
	for s, want := range tables {
		v := read(t, s)
		if table, e := second(v); e != api.OK || tableText(table) != want {
			t.Errorf("the second table of %s: %s, %d", s, tableText(table), e)
		}
		check(t, v)
	}
	for _, v := range wrong(t) {
		if table, e := second(v); e != api.EARG {
			t.Errorf("the second table of %s: %s, %d", told(v), tableText(table), e)
		}
	}
}

// everySmall are all trees of at most so many nodes, by how many they have.
func everySmall(most int) [][]api.Value {
	all := [][]api.Value{nil, {null, said(""), list(), pairs()}}
	for nodes := 2; nodes <= most; nodes++ {
		level := []api.Value{}
		for _, l := range everyList(all, nodes-1) {
			level = append(level, list(l...))
			for _, names := range [][]string{{"", "0", "a", "b"}, {"0", "1", "2", "~"}, {"a", "a!", "a/", "aa"}} {
				m := []api.Pair{}
				for i, x := range l {
					m = append(m, pair(names[i], x))
				}
				level = append(level, pairs(m...))
			}
		}
		all = append(all, level)
	}
	return all
}

// everyList are all lists of one tree or more with so many nodes in all.
func everyList(all [][]api.Value, nodes int) [][]api.Value {
	lists := [][]api.Value{}
	for first := 1; first <= nodes; first++ {
		rest := [][]api.Value{nil}
		if first < nodes {
			rest = everyList(all, nodes-first)
		}
		for _, x := range all[first] {
			for _, more := range rest {
				lists = append(lists, append([]api.Value{x}, more...))
			}
		}
	}
	return lists
}

// Every small tree by itself, and every list of one and of two of them.
func TestEverySmallTree(t *testing.T) {
	all := everySmall(4)
	for _, level := range all {
		for _, v := range level {
			check(t, v)
			check(t, list(v))
			check(t, list(v, pairs(pair("a", null))))
		}
	}
	few := slices.Concat(all[:4]...)
	for _, a := range few {
		for _, b := range few {
			check(t, list(a, b))
		}
	}
}

// Each byte, and each two, as keys, beside such as it could be taken for.
func TestEveryByte(t *testing.T) {
	for b := range 128 {
		x := string([]byte{byte(b)})
		names := []string{x, x + "a", "a" + x, "~" + x, x + "~", "/" + x, x + "/", "0" + x, x + "0", "~k" + x, x + "~k", x + x}
		m, other := []api.Pair{}, []api.Pair{}
		slices.Sort(names)
		for i, name := range slices.Compact(names) {
			m = append(m, pair(name, list(said(name))))
			other = append(other, pair(name, pairs(pair(names[i/2], said(x)))))
		}
		check(t, list(pairs(m...), pairs(other...), pairs(m[0], m[len(m)-1])))
		check(t, list(pairs(other...), pairs(m...)))
		for next := range 128 {
			check(t, list(pairs(pair(x+string([]byte{byte(next)}), null)), pairs(pair(x, list(null)))))
		}
	}
	refuses(t, list(pairs(pair("\x80", null))), api.EARG)
}

// grow is a Good value.
func grow(random *rand.Rand, depth int) api.Value {
	names := []string{"", "0", "1", "00", "10", "a", "a!", "aa", "a/b", "b", "~", "~k", "~k0", "\u20ac", ","}
	leaves := []api.Value{null, {Kind: api.Bool}, {Kind: api.Bool, N: 1}, whole(0), whole(-7), num("1.50"), num("-0"), said(""), said("x"), said("'"), said("null"), said("a,b"), said("\u20ac"), stamp("2020-01-01"), list(), pairs()}
	kind := random.Intn(3)
	if depth == 0 || kind == 0 {
		return leaves[random.Intn(len(leaves))]
	}
	if kind == 1 {
		l := []api.Value{}
		for range random.Intn(4) {
			l = append(l, grow(random, depth-1))
		}
		return list(l...)
	}
	return growMap(random, depth, names)
}

// growMap is a Good map with something in it.
func growMap(random *rand.Rand, depth int, names []string) api.Value {
	m := []api.Pair{}
	picked := slices.Sorted(slices.Values(random.Perm(len(names))[:1+random.Intn(min(4, len(names)))]))
	for _, i := range picked {
		m = append(m, pair(names[i], grow(random, depth-1)))
	}
	slices.SortFunc(m, func(a, b api.Pair) int { return strings.Compare(a.Key, b.Key) })
	return pairs(m...)
}

// growTable is a list of maps, of few keys or of many.
func growTable(random *rand.Rand) api.Value {
	l := []api.Value{}
	names := [][]string{{"a", "b"}, {"", "0", "a", "a!", "b"}, {"a"}}[random.Intn(3)]
	for range 1 + random.Intn(5) {
		l = append(l, growMap(random, 1+random.Intn(4), names))
	}
	return list(l...)
}

// spoilt is a value with one part altered so that it is no Good list of maps any more, or another one.
func spoilt(random *rand.Rand, v api.Value) api.Value {
	odd := []api.Value{pairs(), list(), null, {N: 1}, {Kind: 9}, said("\xff"), num("5"), said(strings.Repeat("'", api.MaxStr)), {Kind: api.Map, S: "x", M: []api.Pair{{}}}}
	all := path.All(v)
	out, _ := path.Set(v, all[random.Intn(len(all))], odd[random.Intn(len(odd))])
	return out
}

// TestGrown: lists, whole and with a part spoilt, have the second table.
func TestGrown(t *testing.T) {
	random := rand.New(rand.NewSource(16))
	tabled := 0
	for range 8000 {
		v := growTable(random)
		check(t, v)
		check(t, spoilt(random, v))
		check(t, grow(random, 4))
		if _, e := flat.Flat(v); e == api.OK {
			tabled++
		}
	}
	if tabled < 6000 {
		t.Errorf("of 8000 grown lists only %d have a table", tabled)
	}
}

// TestGrownLong: as TestGrown, but about the limits.
func TestGrownLong(t *testing.T) {
	random := rand.New(rand.NewSource(17))
	long := strings.Repeat("x", api.MaxStr)
	texts := []string{"a", "", long, long[1:], long[2:], "'" + long[1:], "'" + long[2:], strings.Repeat("~", api.MaxStr/2), strings.Repeat("/", api.MaxStr/2-1)}
	for range 300 {
		height := []int{1, 2, 30, api.MaxRows, api.MaxRows + 1}[random.Intn(5)]
		width := []int{1, 2, api.MaxCols - 1, api.MaxCols, api.MaxCols + 1}[random.Intn(5)]
		l := many(height, one("k", null))
		l[random.Intn(height)] = mapOf(keys(0, width), said(texts[random.Intn(len(texts))]))
		l[random.Intn(height)] = mapOf(keys(random.Intn(3), width-1), null)
		l[random.Intn(height)] = one(texts[random.Intn(len(texts))], one("", list(whole(1))))
		for i, m := range l {
			if len(m.M) == 0 {
				l[i] = one("a", said(texts[random.Intn(len(texts))]))
			}
		}
		check(t, list(l...))
	}
}

func FuzzText(f *testing.F) {
	for s := range tables {
		f.Add(s)
	}
	f.Fuzz(func(t *testing.T, s string) {
		v, fault := jread.Parse(s)
		if fault.Err != api.OK {
			return
		}
		check(t, v)
		check(t, list(v))
		check(t, list(pairs(pair("a", v)), pairs(pair("a", list(v, v)))))
	})
}
