package loss_test

import (
	"fmt"
	"reflect"
	"slices"
	"testing"
	"unsafe"

	"dragoman/api"
	"dragoman/loss"
	"dragoman/value"
)

// everyValue are values that a format can say, such as are altered for it, and such as are refused; with
// spare room in each of their lists.
func everyValue(t *testing.T) []api.Value {
	all := notGood()
	for _, cases := range [][]fitted{ofJSON, ofTOML, ofCSV} {
		for _, c := range cases {
			all = append(all, read(t, c.v))
		}
	}
	for s := range may {
		all = append(all, read(t, s))
	}
	for s := range common {
		all = append(all, read(t, s))
	}
	all = append(all, inLists(api.MaxDepth-1, null), inMaps(api.MaxDepth-1, null), wide(api.MaxCols+1, null))
	for i, v := range all {
		all[i] = roomy(v)
	}
	return all
}

// roomy is a value of which every list and every map has spare room, in which something lies.
func roomy(v api.Value) api.Value {
	l, m := []api.Value{}, []api.Pair{}
	for _, x := range v.L {
		l = append(l, roomy(x))
	}
	for _, p := range v.M {
		m = append(m, pair(p.Key, roomy(p.V)))
	}
	v.L = append(l, stamp("room"), list(null))[:len(l)]
	v.M = append(m, pair("room", null), pair("a", stamp("room")))[:len(m)]
	return v
}

// inside tells all of a value, spare room too.
func inside(v api.Value) string {
	out := fmt.Sprintf("%d %d %q %d %d[", v.Kind, v.N, v.S, len(v.L), len(v.M))
	for _, x := range v.L[:cap(v.L)] {
		out += inside(x)
	}
	for _, p := range v.M[:cap(v.M)] {
		out += fmt.Sprintf("%q:", p.Key) + inside(p.V)
	}
	return out + "]"
}

// spoilAll alters all that lies in a value's lists, spare room too.
func spoilAll(v api.Value) {
	for i := range v.L[:cap(v.L)] {
		spoilAll(v.L[:cap(v.L)][i])
		v.L[:cap(v.L)][i] = said("spoilt")
	}
	for i := range v.M[:cap(v.M)] {
		spoilAll(v.M[:cap(v.M)][i].V)
		v.M[:cap(v.M)][i] = pair("spoilt", said("spoilt"))
	}
}

// answer is all that is told of a value and a format.
type answer struct {
	v           api.Value
	notes       []loss.Note
	e           api.Errno
	may, common bool
}

func ask(f int, v api.Value) answer {
	out, notes, e := loss.Fit(f, v)
	return answer{out, notes, e, loss.May(f, v), loss.Common(v)}
}

// TestUnchanged: what was handed in is not changed, spare room included; it is told alike each time; and what
// was told does not hang on what becomes of it, nor it on what becomes of that.
func TestUnchanged(t *testing.T) {
	for _, f := range []int{0, json, toml, csv} {
		for _, v := range everyValue(t) {
			before := inside(v)
			got, again := ask(f, v), ask(f, v)
			if inside(v) != before {
				t.Errorf("R4: %s is changed: %s", before, inside(v))
			}
			if !reflect.DeepEqual(got, again) {
				t.Errorf("R5: of %s is told twice: %s; %s", told(v), told(got), told(again))
			}
			spoilAll(again.v)
			for i := range again.notes[:cap(again.notes)] {
				again.notes[:cap(again.notes)][i] = loss.Note{Path: "spoilt", What: 99}
			}
			if inside(v) != before || !reflect.DeepEqual(got, ask(f, v)) {
				t.Errorf("R4: what was handed in is spoilt with what was told of it: %s", told(v))
			}
			same, notes := value.Copy(got.v), slices.Clone(got.notes)
			spoilAll(v)
			if !value.Same(got.v, same) || !slices.Equal(got.notes, notes) {
				t.Errorf("R4: what was told is spoilt with what was handed in: %s", told(got))
			}
		}
	}
}

// places counts in how many lists each place in memory lies, spare room included.
type places map[unsafe.Pointer]int

// add counts the places of a value's lists.
func (seen places) add(v api.Value) {
	for i := range v.L[:cap(v.L)] {
		seen[unsafe.Pointer(&v.L[:cap(v.L)][i])]++
	}
	for i := range v.M[:cap(v.M)] {
		seen[unsafe.Pointer(&v.M[:cap(v.M)][i])]++
	}
	for _, x := range v.L {
		seen.add(x)
	}
	for _, p := range v.M {
		seen.add(p.V)
	}
}

// TestNewMemory: no two lists of what is told share a place, nor any with what was handed in.
func TestNewMemory(t *testing.T) {
	shared := roomy(list(null, of("a", null)))
	bare := roomy(list())
	all := append(everyValue(t), list(shared, bare, of("a", shared), of("b", bare)), pairs(pair("a", shared), pair("b", shared), pair("c", bare), pair("d", bare)))
	for _, f := range formats {
		for _, v := range all {
			seen := places{}
			for range 2 {
				out, notes, _ := loss.Fit(f, v)
				seen.add(out)
				for i := range notes[:cap(notes)] {
					seen[unsafe.Pointer(&notes[:cap(notes)][i])]++
				}
			}
			// Of what was handed in the lists may lie in one another's place: each counts once.
			given := places{}
			given.add(v)
			for place := range given {
				seen[place]++
			}
			for place, n := range seen {
				if n > 1 {
					t.Fatalf("R4: of %s in format %d, the place %v lies in %d lists", told(v), f, place, n)
				}
			}
		}
	}
}
