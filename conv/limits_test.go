package conv_test

import (
	"fmt"
	"slices"
	"strings"
	"testing"

	"dragoman/api"
	"dragoman/conv"
	"dragoman/loss"
	"dragoman/value"
)

// sized is a value that a format can say in a text of so many bytes, most of them the strings' of this letter,
// each of which has just so many bytes in that text.
func sized(t *testing.T, f, n int, letter string, each int) api.Value {
	t.Helper()
	v := list()
	add := func(s string) {
		v.L = append(v.L, of("a", said(s)))
	}
	// TOML cannot say a list alone.
	root := func() api.Value {
		if f == toml {
			return of("value", v)
		}
		return v
	}
	// The last string takes what is left: it must have room for that.
	const half = api.MaxStr / 2
	for n-len(print(f, root())) > half/len(letter)*each+100 {
		add(strings.Repeat(letter, half/len(letter)))
	}
	// With the letter in it, so that it has what CSV lays around a field already.
	add("x" + letter)
	left := n - len(print(f, root()))
	v.L[len(v.L)-1].M[0].V.S += strings.Repeat(letter, left/each) + strings.Repeat("x", left%each)
	if got := len(print(f, root())); got != n {
		t.Fatalf("a text of %d bytes, not %d", got, n)
	}
	return root()
}

// TestMostText: a text of MaxText bytes may be, one of one more may not; bytes are counted, as they are written.
func TestMostText(t *testing.T) {
	for _, c := range []struct {
		f      int
		letter string
		each   int
	}{{json, "x", 1}, {json, "\x01", 6}, {json, "\"", 2}, {json, "\u20ac", 3}, {toml, "x", 1}, {toml, "\\", 2}, {toml, "\u20ac", 3}, {csv, "x", 1}, {csv, "\"", 2}, {csv, "\u20ac", 3}, {csv, "\x01", 1}} {
		for n := api.MaxText - 3; n <= api.MaxText; n++ {
			v := sized(t, c.f, n, c.letter, c.each)
			writes(t, c.f, v, print(c.f, v))
			chains(t, v, []int{c.f, c.f}, v, "")
			converts(t, c.f, c.f, print(c.f, v), print(c.f, v), "")
		}
		for _, n := range []int{api.MaxText + 1, api.MaxText + 2, api.MaxText + 5000, 2 * api.MaxText} {
			v := sized(t, c.f, n, c.letter, c.each)
			if !loss.May(c.f, v) {
				t.Errorf("format %d cannot say %s", c.f, told(v))
			}
			unwritten(t, c.f, v, api.ELIMIT)
			refused(t, c.f, v, api.ELIMIT)
			text, want := marked(print(c.f, v)+"|", api.ELIMIT)
			unread(t, c.f, text, want)
		}
	}
}

// TestAlteredText: it is the text of what was altered that must not be too long.
func TestAlteredText(t *testing.T) {
	v := list(slices.Repeat([]api.Value{said(strings.Repeat("x", api.MaxStr))}, 15)...)
	free := api.MaxText - len(print(toml, of("value", v)))
	v.L = append(v.L, said(strings.Repeat("x", free-len(`, ""`))))
	chains(t, v, []int{json, toml, json, toml}, v, "")
	if text, notes, e := conv.To(toml, v); e != api.OK || len(text) != api.MaxText || notesText(notes) != ":2" {
		t.Errorf("P19.1: To of what is just short enough: %d bytes, %s, %d", len(text), notesText(notes), e)
	}
	v.L[15].S += "x"
	chains(t, v, []int{json, json}, v, "")
	refused(t, toml, v, api.ELIMIT)
	unchained(t, v, []int{json, toml}, api.ELIMIT)
	// What JSON lays around each row and CSV does not makes the one too long, and not the other.
	rows := list(slices.Repeat([]api.Value{of("a", stamp(strings.Repeat("\"", 64)))}, 480)...)
	chains(t, rows, []int{csv, csv}, rows, "")
	refused(t, json, rows, api.ELIMIT)
	unchained(t, rows, []int{csv, json}, api.ELIMIT)
}

// TestMostFields: of a table's limits the reader tells some, and the list's own are told at the head.
func TestMostFields(t *testing.T) {
	head, ones := []string{}, []string{}
	for i := range api.MaxCols + 1 {
		head, ones = append(head, fmt.Sprintf("k%d", i)), append(ones, "1")
	}
	table := func(columns, rows int) string {
		return strings.Join(head[:columns], ",") + "\n" + strings.Repeat(strings.Join(ones[:columns], ",")+"\n", rows)
	}
	for _, c := range []struct {
		columns, rows int
		ok            bool
	}{{api.MaxCols, 63, true}, {7, 512, false}, {6, 512, true}, {1, 512, true}, {64, 64, false}} {
		text := table(c.columns, c.rows)
		if !c.ok {
			unread(t, csv, text, api.Fault{Err: api.ELIMIT, Line: 1, Col: 1})
			continue
		}
		v, fault := conv.Read(csv, text)
		if fault != (api.Fault{}) || len(v.L) != c.rows || len(v.L[0].M) != c.columns {
			t.Errorf("P19.1: Read of a table of %d, %d: %+v", c.columns, c.rows, fault)
		}
	}
	text, want := marked(strings.Join(head[:api.MaxCols], ",")+",|k64\n1", api.ELIMIT)
	unread(t, csv, text, want)
	text, want = marked("a\n"+strings.Repeat("1\n", api.MaxRows)+"|1\n", api.ELIMIT)
	unread(t, csv, text, want)
	x := strings.Repeat("x", api.MaxStr)
	reads(t, csv, x+",b\n1,"+x, list(pairs(pair("b", said(x)), pair(x, whole(1)))))
	text, want = marked("a,|"+x+"x\n1,2", api.ELIMIT)
	unread(t, csv, text, want)
	text, want = marked("a,b\n1,|\""+x+"x\"\n1,2", api.ELIMIT)
	unread(t, csv, text, want)
	// The last cell of the last row, with all that a table may have ahead of it.
	row := strings.Repeat("\"\n,\",", 5)
	text, want = marked("a,b,c,d,e,f\n"+strings.Repeat(row+"1\r\n", 500)+row+"|@", api.ESYNTAX)
	unread(t, csv, text, want)
}

// TestDeepest: a value as deep as it may be goes through what can say it, and is refused by what cannot.
func TestDeepest(t *testing.T) {
	lists, maps, rows := whole(1), whole(1), whole(1)
	for range api.MaxDepth - 1 {
		lists, maps = list(lists), of("k", maps)
	}
	for range api.MaxDepth - 2 {
		rows = of("k", rows)
	}
	rows = list(rows)
	chains(t, lists, []int{json, json}, lists, "")
	refused(t, toml, lists, api.ELIMIT)
	refused(t, csv, lists, api.ELIMIT)
	chains(t, maps, []int{json, toml, json, toml}, maps, "")
	refused(t, csv, maps, api.ELIMIT)
	chains(t, rows, []int{json, csv, json, csv}, rows, "")
	refused(t, toml, rows, api.ELIMIT)
	for _, v := range []api.Value{lists.L[0], maps.M[0].V, rows.L[0]} {
		chains(t, v, []int{toml, json, toml}, v, "")
	}
	for _, v := range []api.Value{maps.M[0].V, rows.L[0]} {
		chains(t, v, []int{toml, csv, json, csv, toml}, v, "")
	}
	for _, v := range []api.Value{list(lists), of("k", maps), list(rows)} {
		for _, f := range formats {
			unwritten(t, f, v, api.EARG)
			refused(t, f, v, api.EARG)
		}
		chains(t, v, nil, v, "")
	}
}

// TestGreatTexts: texts far beyond every limit are told quickly.
func TestGreatTexts(t *testing.T) {
	for _, piece := range []string{"[", "{\"a\":", "a", "\"", ",", "\n", "\r\n", "a = 1\n", "[a]\n", "1,2\n", "\"\n\",", "\xff", "\u20ac", "@\n"} {
		for _, n := range []int{api.MaxText/len(piece) - 1, api.MaxText, 1 << 20} {
			text := strings.Repeat(piece, n)
			for _, f := range append(formats, 0) {
				want := api.Fault{Err: api.EARG, Line: 1, Col: 1}
				if f != 0 {
					_, want = secondRead(f, text)
				}
				got, fault := conv.Read(f, text)
				if fault != want || want.Err != api.OK && !value.Same(got, null) {
					t.Errorf("P19.1: Read(%d) of a great text of %q: %+v, want %+v", f, piece, fault, want)
				}
			}
		}
	}
}

// TestGreatValues: values far beyond every limit are told quickly; and such as have long texts.
func TestGreatValues(t *testing.T) {
	deep := null
	for range 1<<16 - 1 {
		deep = list(deep)
	}
	loop := make([]api.Value, 1)
	loop[0] = list(loop...)
	for _, v := range []api.Value{deep, loop[0], list(slices.Repeat([]api.Value{null}, 1<<20)...), said(strings.Repeat("x", 1<<22)), num(strings.Repeat("9", 1<<22)), of(strings.Repeat("x", 1<<22), null)} {
		for _, f := range append(formats, 0, 4) {
			if text, e := conv.Write(f, v); e != api.EARG || text != "" {
				t.Errorf("P19.1: Write(%d) of a great value: %d", f, e)
			}
			if text, notes, e := conv.To(f, v); e != api.EARG || text != "" || len(notes) > 0 {
				t.Errorf("P19.1: To(%d) of a great value: %d", f, e)
			}
			if got, notes, e := conv.Chain(v, f, f); e != api.EARG || !value.Same(got, null) || len(notes) > 0 {
				t.Errorf("P19.1: Chain(%d) of a great value: %d", f, e)
			}
		}
	}
	// The longest texts of all take a while: once in each format will do.
	long := list(slices.Repeat([]api.Value{said(strings.Repeat("\x01", api.MaxStr))}, api.MaxNodes-1)...)
	unwritten(t, json, long, api.ELIMIT)
	unwritten(t, toml, of("a", list(long.L[1:]...)), api.ELIMIT)
	refused(t, csv, list(long.L[:api.MaxRows]...), api.ELIMIT)
	// As many formats as one likes.
	v := list(of("a", said("x")), of("a", whole(1)))
	chains(t, v, slices.Repeat(formats, 3000), v, "")
	chains(t, whole(5), slices.Repeat(formats, 3000), whole(5), "")
	unchained(t, v, append(slices.Repeat(formats, 3000), 0), api.EARG)
}
