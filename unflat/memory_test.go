package unflat_test

import (
	"fmt"
	"reflect"
	"slices"
	"strings"
	"testing"
	"unsafe"

	"dragoman/api"
	"dragoman/flat"
	"dragoman/path"
	"dragoman/unflat"
	"dragoman/value"
)

// everyTable are tables that are read, and such as are refused; with spare room in each of their lists.
func everyTable() []flat.Table {
	all := []flat.Table{{}}
	for s := range lists {
		all = append(all, table(s))
	}
	for _, c := range wrongs {
		all = append(all, table(c.table))
	}
	for i, x := range all {
		all[i].Head = roomy(x.Head, "~room")
		all[i].Rows = roomy(x.Rows, []string{"room"})
		for j, row := range all[i].Rows {
			all[i].Rows[j] = roomy(row, "@room")
		}
	}
	return all
}

// everyLeaves are leaves of which a tree is built, and such as are refused; with spare room in each list.
func everyLeaves() [][]flat.Leaf {
	all := [][]flat.Leaf{nil}
	for s := range trees {
		all = append(all, leaves(s))
	}
	for _, c := range clashes {
		all = append(all, leaves(c.leaves))
	}
	for _, v := range withParts() {
		all = append(all, append(leaves("/a=1"), leaf("/b", v)))
	}
	all = append(all, []flat.Leaf{leaf("/a", num("x"))})
	for i := range all {
		all[i] = roomy(all[i], flat.Leaf{})
		for j := range all[i] {
			leaf := &all[i][j]
			leaf.Path = roomy(leaf.Path, path.Step{Key: "room", At: 7})
			leaf.V.L = roomy(leaf.V.L, said("room"))
			leaf.V.M = roomy(leaf.V.M, pair("room", null))
		}
	}
	return all
}

// roomy is a list with spare room, in which something lies.
func roomy[T any](l []T, in T) []T {
	return append(slices.Clone(l), in, in)[:len(l)]
}

// insideTable tells all of a table, spare room too.
func insideTable(x flat.Table) string {
	out := fmt.Sprintf("%d %q %d", len(x.Head), x.Head[:cap(x.Head)], len(x.Rows))
	for _, row := range x.Rows[:cap(x.Rows)] {
		out += fmt.Sprintf(" %d %q", len(row), row[:cap(row)])
	}
	return out
}

// insideLeaves tells all of leaves, spare room too.
func insideLeaves(l []flat.Leaf) string {
	out := fmt.Sprint(len(l))
	for _, leaf := range l[:cap(l)] {
		out += fmt.Sprintf(" %d %+v %+v %d %+v %d %+v", len(leaf.Path), leaf.Path[:cap(leaf.Path)], leaf.V, len(leaf.V.L), leaf.V.L[:cap(leaf.V.L)], len(leaf.V.M), leaf.V.M[:cap(leaf.V.M)])
	}
	return out
}

// TestTableUnchanged: a table is not changed, spare room included, nor does what was told of it hang on what
// becomes of it; it is told alike each time.
func TestTableUnchanged(t *testing.T) {
	for _, x := range everyTable() {
		before := insideTable(x)
		v, e, row, column := unflat.Unflat(x)
		if insideTable(x) != before {
			t.Errorf("R4: a table is changed: %s, was %s", insideTable(x), before)
		}
		again, eAgain, rowAgain, columnAgain := unflat.Unflat(x)
		if e != eAgain || row != rowAgain || column != columnAgain || !reflect.DeepEqual(v, again) {
			t.Errorf("R5: of %s is told twice: %s, %d at %d, %d; %s, %d at %d, %d", told(x), told(v), e, row, column, told(again), eAgain, rowAgain, columnAgain)
		}
		for _, l := range append(x.Rows[:cap(x.Rows)], x.Head) {
			for i := range l[:cap(l)] {
				l[:cap(l)][i] = "spoilt"
			}
		}
		if !reflect.DeepEqual(v, again) {
			t.Errorf("R4: what was told is spoilt with the table: %s", told(v))
		}
	}
}

// TestLeavesUnchanged: as TestTableUnchanged, of leaves.
func TestLeavesUnchanged(t *testing.T) {
	for _, l := range everyLeaves() {
		before := insideLeaves(l)
		v, e, at := unflat.Build(l)
		if insideLeaves(l) != before {
			t.Errorf("R4: leaves are changed: %s, were %s", insideLeaves(l), before)
		}
		again, eAgain, atAgain := unflat.Build(l)
		if e != eAgain || at != atAgain || !reflect.DeepEqual(v, again) {
			t.Errorf("R5: of %s is told twice: %s, %d at %d; %s, %d at %d", toldLeaves(l), told(v), e, at, told(again), eAgain, atAgain)
		}
		same := value.Copy(v)
		for i, leaf := range l[:cap(l)] {
			for j := range leaf.Path {
				leaf.Path[j] = key("spoilt")
			}
			for j := range leaf.V.L[:cap(leaf.V.L)] {
				leaf.V.L[:cap(leaf.V.L)][j] = said("spoilt")
			}
			for j := range leaf.V.M[:cap(leaf.V.M)] {
				leaf.V.M[:cap(leaf.V.M)][j] = pair("spoilt", null)
			}
			l[:cap(l)][i] = flat.Leaf{}
		}
		if !value.Same(v, same) {
			t.Errorf("R4: what was told is spoilt with the leaves: %s", told(v))
		}
	}
}

// places counts in how many lists each place in memory lies, spare room included.
type places map[unsafe.Pointer]int

// add counts the places of one list.
func add[T any](seen places, l []T) {
	l = l[:cap(l)]
	for i := range l {
		seen[unsafe.Pointer(&l[i])]++
	}
}

// addValue counts the places of a value's lists.
func addValue(seen places, v api.Value) {
	add(seen, v.L)
	add(seen, v.M)
	for _, x := range v.L {
		addValue(seen, x)
	}
	for _, p := range v.M {
		addValue(seen, p.V)
	}
}

// once tells that no place lies in two lists.
func (seen places) once(t *testing.T, of string) {
	t.Helper()
	for place, n := range seen {
		if n > 1 {
			t.Fatalf("R4: of %s, the place %v lies in %d lists", of, place, n)
		}
	}
}

// TestNewMemory: no two lists of what is answered share a place, nor any with what was handed in.
func TestNewMemory(t *testing.T) {
	for _, l := range everyLeaves() {
		seen := places{}
		add(seen, l)
		for _, leaf := range l {
			add(seen, leaf.Path)
			addValue(seen, leaf.V)
		}
		v, _, _ := unflat.Build(l)
		addValue(seen, v)
		again, _, _ := unflat.Build(l)
		addValue(seen, again)
		seen.once(t, toldLeaves(l))
	}
	for _, x := range everyTable() {
		seen := places{}
		v, _, _, _ := unflat.Unflat(x)
		addValue(seen, v)
		again, _, _, _ := unflat.Unflat(x)
		addValue(seen, again)
		seen.once(t, told(x))
	}
	// One list that two leaves have, with room, is of neither in the tree.
	shared := make([]api.Value, 3)[:0]
	v, _, _ := unflat.Build([]flat.Leaf{leaf("/0", api.Value{Kind: api.List, L: shared}), leaf("/1", api.Value{Kind: api.List, L: shared})})
	seen := places{}
	addValue(seen, v)
	add(seen, shared)
	seen.once(t, "a list that two leaves have")
}

// TestNewTexts: keys and strings that Unflat tells are no pieces of the table's.
func TestNewTexts(t *testing.T) {
	name, text := strings.Clone("a name of a column"), strings.Clone("a text of a cell")
	v, _, _, _ := unflat.Unflat(flat.Table{Head: []string{name}, Rows: [][]string{{text}}})
	if within(name, v.L[0].M[0].Key) || within(text, v.L[0].M[0].V.S) {
		t.Errorf("R4: Unflat tells pieces of its argument")
	}
}

// within tells whether a piece lies in a text's memory.
func within(text, piece string) bool {
	begin := uintptr(unsafe.Pointer(unsafe.StringData(text)))
	place := uintptr(unsafe.Pointer(unsafe.StringData(piece)))
	return place >= begin && place < begin+uintptr(len(text))
}
