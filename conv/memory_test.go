package conv_test

import (
	"fmt"
	"reflect"
	"slices"
	"testing"
	"unsafe"

	"dragoman/api"
	"dragoman/conv"
	"dragoman/loss"
	"dragoman/value"
)

// everyValue are values that a format can say, such as are altered for it, and such as are refused; with
// spare room in each of their lists.
func everyValue(t *testing.T) []api.Value {
	all := append(notGood(), singles()...)
	for _, c := range written {
		all = append(all, read(t, c.v))
	}
	for _, c := range chained {
		all = append(all, read(t, c.v))
	}
	for _, s := range commons {
		all = append(all, read(t, s))
	}
	for i, v := range all {
		all[i] = roomy(v)
	}
	return all
}

// roomy is a value of which every list and every map has spare room, in which something lies.
func roomy(v api.Value) api.Value {
	l, m := []api.Value{}, []api.Pair{}
	for _, x := range v.L {
		l = append(l, roomy(x))
	}
	for _, p := range v.M {
		m = append(m, pair(p.Key, roomy(p.V)))
	}
	v.L = append(l, stamp("room"), list(null))[:len(l)]
	v.M = append(m, pair("room", null), pair("a", stamp("room")))[:len(m)]
	return v
}

// inside tells all of a value, spare room too.
func inside(v api.Value) string {
	out := fmt.Sprintf("%d %d %q %d %d[", v.Kind, v.N, v.S, len(v.L), len(v.M))
	for _, x := range v.L[:cap(v.L)] {
		out += inside(x)
	}
	for _, p := range v.M[:cap(v.M)] {
		out += fmt.Sprintf("%q:", p.Key) + inside(p.V)
	}
	return out + "]"
}

// spoilAll alters all that lies in a value's lists, spare room too.
func spoilAll(v api.Value) {
	for i := range v.L[:cap(v.L)] {
		spoilAll(v.L[:cap(v.L)][i])
		v.L[:cap(v.L)][i] = said("spoilt")
	}
	for i := range v.M[:cap(v.M)] {
		spoilAll(v.M[:cap(v.M)][i].V)
		v.M[:cap(v.M)][i] = pair("spoilt", said("spoilt"))
	}
}

// answer is all that is told of a value.
type answer struct {
	v                   api.Value
	writing, text       string
	notes, more         []loss.Note
	eWrite, eTo, eChain api.Errno
}

// ask tells all of a value and formats: of the first one what it writes, of all of them the chain.
func ask(v api.Value, l []int) answer {
	var a answer
	if len(l) > 0 {
		a.writing, a.eWrite = conv.Write(l[0], v)
		a.text, a.notes, a.eTo = conv.To(l[0], v)
	}
	a.v, a.more, a.eChain = conv.Chain(v, l...)
	return a
}

// spoil alters all that was told.
func (a answer) spoil() {
	spoilAll(a.v)
	for _, notes := range [][]loss.Note{a.notes, a.more} {
		for i := range notes[:cap(notes)] {
			notes[:cap(notes)][i] = loss.Note{Path: "spoilt", What: 99}
		}
	}
}

// TestUnchanged: what was handed in is not changed, spare room included; it is told alike each time; and what
// was told does not hang on what becomes of it, nor it on what becomes of that.
func TestUnchanged(t *testing.T) {
	for _, chain := range append(everyChain(2), []int{0}, []int{json, 4}, []int{csv, toml, csv, json}) {
		l := append(slices.Clone(chain), 77, json)[:len(chain)]
		for _, v := range everyValue(t) {
			before := inside(v)
			got, again := ask(v, l), ask(v, l)
			if inside(v) != before || fmt.Sprint(l[:len(l)+2]) != fmt.Sprint(append(slices.Clone(chain), 77, json)) {
				t.Errorf("R4: %s, %v is changed: %s, %v", before, chain, inside(v), l[:len(l)+2])
			}
			if !reflect.DeepEqual(got, again) {
				t.Errorf("R5: of %s, %v is told twice: %s; %s", told(v), l, told(got), told(again))
			}
			again.spoil()
			if inside(v) != before || !reflect.DeepEqual(got, ask(v, l)) {
				t.Errorf("R4: what was handed in is spoilt with what was told of it: %s, %v", told(v), l)
			}
			same, notes, more := value.Copy(got.v), slices.Clone(got.notes), slices.Clone(got.more)
			spoilAll(v)
			if !value.Same(got.v, same) || !slices.Equal(got.notes, notes) || !slices.Equal(got.more, more) {
				t.Errorf("R4: what was told is spoilt with what was handed in: %s, %v", told(got), l)
			}
		}
	}
}

// TestToldAlike: a text is told alike each time, also behind another one.
func TestToldAlike(t *testing.T) {
	texts := []string{"", "x"}
	for _, c := range wrongs {
		text, _ := marked(c.text, c.want)
		texts = append(texts, text)
	}
	for _, c := range readOnly {
		texts = append(texts, lines(c.text))
	}
	tell := func(text string) string {
		all := ""
		for from := range 5 {
			v, fault := conv.Read(from, text)
			all += fmt.Sprintf("%+v %+v;", v, fault)
			for to := range 5 {
				out, notes, fault := conv.Convert(from, to, text)
				all += fmt.Sprintf("%q %+v %+v;", out, notes, fault)
			}
		}
		return all
	}
	first := []string{}
	for _, text := range texts {
		first = append(first, tell(text))
	}
	for i, text := range slices.Backward(texts) {
		if again := tell(text); again != first[i] {
			t.Errorf("R5: of %s is told %s, and then %s", quoted(text), first[i], again)
		}
	}
}

// places counts in how many lists each place in memory lies, spare room included.
type places map[unsafe.Pointer]int

// add counts the places of a value's lists.
func (seen places) add(v api.Value) {
	for i := range v.L[:cap(v.L)] {
		seen[unsafe.Pointer(&v.L[:cap(v.L)][i])]++
	}
	for i := range v.M[:cap(v.M)] {
		seen[unsafe.Pointer(&v.M[:cap(v.M)][i])]++
	}
	for _, x := range v.L {
		seen.add(x)
	}
	for _, p := range v.M {
		seen.add(p.V)
	}
}

// addNotes counts the places of notes.
func (seen places) addNotes(notes []loss.Note) {
	for i := range notes[:cap(notes)] {
		seen[unsafe.Pointer(&notes[:cap(notes)][i])]++
	}
}

// once tells that no place lies in two lists.
func (seen places) once(t *testing.T, of string) {
	t.Helper()
	for place, n := range seen {
		if n > 1 {
			t.Fatalf("R4: of %s, the place %v lies in %d lists", of, place, n)
		}
	}
}

// TestNewMemory: no two lists of what is told share a place, nor any with what was handed in.
func TestNewMemory(t *testing.T) {
	shared := roomy(list(null, of("a", null)))
	bare := roomy(list())
	all := append(everyValue(t), list(shared, bare, of("a", shared), of("b", bare)), pairs(pair("a", shared), pair("b", shared), pair("c", bare), pair("d", bare)))
	for _, l := range append(everyChain(2), []int{csv, toml, csv, json, toml}) {
		for _, v := range all {
			seen := places{}
			for range 2 {
				a := ask(v, l)
				seen.add(a.v)
				seen.addNotes(a.notes)
				seen.addNotes(a.more)
			}
			// Of what was handed in the lists may lie in one another's place: each counts once.
			given := places{}
			given.add(v)
			for place := range given {
				seen[place]++
			}
			seen.once(t, fmt.Sprint(told(v), l))
		}
	}
	for _, c := range readOnly {
		seen := places{}
		for range 2 {
			v, _ := conv.Read(c.f, lines(c.text))
			seen.add(v)
			for _, to := range formats {
				_, notes, _ := conv.Convert(c.f, to, lines(c.text))
				seen.addNotes(notes)
			}
		}
		seen.once(t, quoted(c.text))
	}
}
