package tprint_test

import (
	"fmt"
	"slices"
	"strings"
	"testing"

	"dragoman/api"
	"dragoman/tprint"
	"dragoman/tread"
	"dragoman/value"
)

// dots is a path of so many keys.
func dots(n int) string { return strings.TrimSuffix(strings.Repeat("k.", n), ".") }

// headers are the headers of tables that lie one in the other, so many of them.
func headers(n int, open, shut string) string {
	all := []string{}
	for i := range n {
		all = append(all, open+dots(i+1)+shut+"\n")
	}
	return strings.Join(all, "\n")
}

// inMaps, inRows and inLists are a value with so many maps, lists of one map, or lists around it.
func inMaps(n int, v api.Value) api.Value {
	for range n {
		v = of("k", v)
	}
	return v
}

func inRows(n int, v api.Value) api.Value {
	for range n {
		v = of("k", list(v))
	}
	return v
}

func inLists(n int, v api.Value) api.Value {
	for range n {
		v = list(v)
	}
	return v
}

// TestMostDepth: at MaxDepth all is written and read back, one past it nothing.
func TestMostDepth(t *testing.T) {
	const most = api.MaxDepth
	for _, c := range []struct {
		v    api.Value
		text string
	}{
		// A plain value at the bottom of maps, and a map there.
		{inMaps(most-1, whole(1)), headers(most-2, "[", "]") + "k = 1\n"},
		{inMaps(most-1, empty), headers(most-2, "[", "]") + "k = []\n"},
		{inMaps(most-1, bare), headers(most-1, "[", "]")},
		// A list of maps is one deeper than its pair's map, and each of its maps once more.
		{inMaps(most-2, list(bare)), headers(most-3, "[", "]") + "\n[[" + dots(most-2) + "]]\n"},
		{inMaps(most-3, list(of("k", whole(1)))), headers(most-4, "[", "]") + "\n[[" + dots(most-3) + "]]\nk = 1\n"},
		{inRows(most/2-1, of("k", whole(1))), headers(most/2-1, "[[", "]]") + "k = 1\n"},
		{inRows(most/2-1, of("k", bare)), headers(most/2-1, "[[", "]]") + "\n[" + dots(most/2) + "]\n"},
		// Within a line.
		{of("k", inLists(most-2, whole(1))), "k = " + strings.Repeat("[", most-2) + "1" + strings.Repeat("]", most-2) + "\n"},
		{of("k", inLists(most-2, bare)), "k = " + strings.Repeat("[", most-2) + "{}" + strings.Repeat("]", most-2) + "\n"},
		{of("k", list(inMaps(most-3, whole(1)), yes)), "k = [" + strings.Repeat("{k = ", most-3) + "1" + strings.Repeat("}", most-3) + ", true]\n"},
		{of("k", list(inMaps(most-3, bare), yes)), "k = [" + strings.Repeat("{k = ", most-3) + "{}" + strings.Repeat("}", most-3) + ", true]\n"},
		{of("k", list(yes, inRows(most/2-2, list(said("\n"))))), "k = [true, " + strings.Repeat("{k = [", most/2-2) + `["\n"]` + strings.Repeat("]}", most/2-2) + "]\n"},
	} {
		if got := value.Deep(c.v); got != most {
			t.Errorf("%s is %d deep", told(c.v), got)
		}
		writes(t, c.v, c.text)
		writesNothing(t, of("k", c.v))
		writesNothing(t, of("k", list(c.v)))
		writesNothing(t, of("k", list(yes, c.v)))
	}
	// As deep as anything may be that is handed in.
	writesNothing(t, inMaps(1<<16-1, whole(1)))
	writesNothing(t, inRows(1<<15-1, whole(1)))
	writesNothing(t, of("k", inLists(1<<16-2, whole(1))))
}

// keyed is a map of so many pairs of one value, and what stands of each pair, told by its key.
func keyed(n int, v api.Value, line func(key string) string) (api.Value, []string) {
	m, all := bare, []string{}
	for i := range n {
		key := fmt.Sprintf("%04d", i)
		m.M = append(m.M, pair(key, v))
		all = append(all, line(key))
	}
	return m, all
}

// ofNodes are maps that have so many nodes, each way of having them, with their texts.
func ofNodes(n int) ([]api.Value, []string) {
	ints, intLines := keyed(n-1, whole(7), func(key string) string { return key + " = 7\n" })
	maps, mapLines := keyed(n-1, bare, func(key string) string { return "[" + key + "]\n" })
	inLine, inLineTexts := keyed(n-4, bare, func(key string) string { return key + " = {}" })
	return []api.Value{
		ints, maps, of("k", list(yes, inLine)),
		of("k", list(slices.Repeat([]api.Value{yes}, n-2)...)),
		of("k", list(append(slices.Repeat([]api.Value{bare}, n-3), yes)...)),
		of("k", list(slices.Repeat([]api.Value{bare}, n-2)...)),
	}, []string{
		strings.Join(intLines, ""), strings.Join(mapLines, "\n"), "k = [true, {" + strings.Join(inLineTexts, ", ") + "}]\n",
		"k = [" + strings.Repeat("true, ", n-3) + "true]\n",
		"k = [" + strings.Repeat("{}, ", n-3) + "true]\n",
		strings.Repeat("[[k]]\n\n", n-3) + "[[k]]\n",
	}
}

// TestMostNodes: at MaxNodes all is written and read back, one past it nothing.
func TestMostNodes(t *testing.T) {
	for _, n := range []int{4, 5, 100, api.MaxNodes - 1, api.MaxNodes, api.MaxNodes + 1} {
		all, texts := ofNodes(n)
		for i, v := range all {
			if got := value.Size(v); got != n {
				t.Errorf("%s has %d nodes, not %d", told(v), got, n)
			}
			if n > api.MaxNodes {
				writesNothing(t, v)
			} else {
				writes(t, v, texts[i])
			}
		}
	}
}

// filled is a map whose text has just so many bytes: strings of a list below a header.
func filled(size int) api.Value {
	const ahead = "[t]\nk = []\n"
	l := []api.Value{}
	for left := size - len(ahead) + 2; left > 0; {
		n := min(left, api.MaxStr)
		if left-n < 4 && left != n {
			n = left - 4
		}
		l = append(l, said(strings.Repeat("x", n-4)))
		left -= n
	}
	return of("t", of("k", list(l...)))
}

// TestMostText: a text of just MaxText bytes is read back; a longer one is written all the same.
func TestMostText(t *testing.T) {
	for _, size := range []int{100, 5000, api.MaxText - 1, api.MaxText, api.MaxText + 1, 10 * api.MaxText} {
		v := filled(size)
		text := tprint.Print(v)
		if len(text) != size || !tprint.May(v) {
			t.Fatalf("P12.1: Print of strings: %d bytes, want %d", len(text), size)
		}
		readsBack(t, v)
		if want := size <= api.MaxText; tread.Valid(text) != want {
			t.Errorf("P12.2: a text of %d bytes is read: %v", size, !want)
		}
	}
}

// TestGreat: great texts are written to their end, of keys and strings that are all escapes, below paths of
// such keys.
func TestGreat(t *testing.T) {
	s := strings.Repeat("\x01", api.MaxStr)
	quoted := `"` + strings.Repeat(`\u0001`, api.MaxStr) + `"`
	v, want, path := of(s, said(s)), []string{}, quoted
	for range api.MaxDepth - 2 {
		v = of(s, v)
		want = append(want, "["+path+"]\n")
		path += "." + quoted
	}
	if got := tprint.Print(v); got != strings.Join(want, "\n")+quoted+" = "+quoted+"\n" {
		t.Errorf("P12.1: Print of great keys: %s", short(got))
	}
	rows := list()
	for range 500 {
		rows.L = append(rows.L, of(s, bare))
	}
	if got := tprint.Print(of(s, rows)); got != strings.TrimSuffix(strings.Repeat("[["+quoted+"]]\n\n["+quoted+"."+quoted+"]\n\n", 500), "\n") {
		t.Errorf("P12.1: Print of great rows: %s", short(got))
	}
}
