package conv_test

import (
	"math/rand"
	"regexp"
	"strings"
	"testing"

	"dragoman/api"
	"dragoman/conv"
	"dragoman/cprint"
	"dragoman/cread"
	"dragoman/flat"
	"dragoman/jprint"
	"dragoman/jread"
	"dragoman/loss"
	"dragoman/place"
	"dragoman/tprint"
	"dragoman/tread"
	"dragoman/unflat"
	"dragoman/value"
)

// fieldOf is a field of CSV and what ends it.
var fieldOf = regexp.MustCompile(`\A("(?:[^"]|"")*"|[^",\r\n]*)(,|\r\n|\n|\z)`)

// begins are the places where the fields of a text that is CSV begin, row by row.
func begins(text string) [][]int {
	all, row := [][]int{}, []int{}
	for at, more := 0, false; at < len(text) || more; {
		found := fieldOf.FindStringSubmatch(text[at:])
		row = append(row, at)
		at += len(found[0])
		if more = found[2] == ","; !more {
			all, row = append(all, row), nil
		}
	}
	return all
}

// secondRead is what Read must tell of a text.
func secondRead(f int, text string) (api.Value, api.Fault) {
	switch f {
	case json:
		return jread.Parse(text)
	case toml:
		return tread.Parse(text)
	}
	rows, fault := cread.Rows(text)
	if fault.Err != api.OK {
		return null, fault
	}
	if text == "" {
		return null, api.Fault{Err: api.ESYNTAX, Line: 1, Col: 1}
	}
	v, e, row, column := unflat.Unflat(flat.Table{Head: rows[0], Rows: rows[1:]})
	if e != api.OK {
		return null, place.Fault(text, begins(text)[row][max(column, 1)-1], e)
	}
	return v, api.Fault{}
}

// checkText holds what is told of a text against what must be, of each format and to each.
func checkText(t *testing.T, text string) {
	t.Helper()
	for _, from := range formats {
		v, fault := secondRead(from, text)
		if fault.Err != api.OK {
			unread(t, from, text, fault)
			continue
		}
		reads(t, from, text, v)
		for _, to := range formats {
			if out, notes, e := secondTo(to, v); e != api.OK {
				got, gotNotes, fault := conv.Convert(from, to, text)
				if fault != (api.Fault{Err: e, Line: 1, Col: 1}) || got != "" || len(gotNotes) > 0 {
					t.Errorf("P19.1: Convert(%d, %d, %s): %s, %+v, want %d", from, to, quoted(text), quoted(got), fault, e)
				}
			} else {
				converts(t, from, to, text, out, notesText(notes))
				// What was written is read as it is written again, whatever it came from.
				converts(t, to, to, out, out, "")
			}
		}
	}
}

// print is the text of a value that a format can say.
func print(f int, v api.Value) string {
	switch f {
	case json:
		return jprint.Compact(v)
	case toml:
		return tprint.Print(v)
	}
	table, _ := flat.Flat(v)
	rows := [][]string{table.Head}
	for _, row := range table.Rows {
		rows = append(rows, row)
	}
	return cprint.Print(rows)
}

// secondTo is what To must tell.
func secondTo(f int, v api.Value) (string, []loss.Note, api.Errno) {
	fit, notes, e := loss.Fit(f, v)
	if e != api.OK {
		return "", nil, e
	}
	text := print(f, fit)
	if len(text) > api.MaxText {
		return "", nil, api.ELIMIT
	}
	return text, notes, api.OK
}

// secondThrough is what must come of a value that goes to a format and back, with no text at all: what is laid
// around its root is told by what that root is, and never comes off by mistake.
func secondThrough(f int, v api.Value) (api.Value, []loss.Note) {
	fit, notes, _ := loss.Fit(f, v)
	none := len(v.L)+len(v.M) == 0
	switch {
	case f == toml && v.Kind != api.Map && v.Kind != api.Null:
		return fit.M[0].V, notes[1:]
	case f == csv && v.Kind == api.Map && !none, f == csv && none && (v.Kind == api.Map || v.Kind == api.List):
		return fit.L[0], notes[1:]
	case f == csv && v.Kind != api.List:
		return v, nil
	}
	return fit, notes
}

// secondChain is what Chain must tell.
func secondChain(v api.Value, l []int) (api.Value, []loss.Note, api.Errno) {
	notes := []loss.Note{}
	for _, f := range l {
		if _, _, e := secondTo(f, v); e != api.OK {
			return null, nil, e
		}
		next, more := secondThrough(f, v)
		v, notes = next, append(notes, more...)
	}
	return v, notes, api.OK
}

// checkChain holds what a chain answers against what it must.
func checkChain(t *testing.T, v api.Value, l []int) {
	t.Helper()
	want, notes, e := secondChain(v, l)
	if e != api.OK {
		unchained(t, v, l, e)
		return
	}
	chains(t, v, l, want, notesText(notes))
}

// check holds what a value answers against what it must, in each format, and in chains.
func check(t *testing.T, v api.Value) {
	t.Helper()
	for _, f := range formats {
		text, notes, e := secondTo(f, v)
		if !loss.May(f, v) {
			unwritten(t, f, v, api.EARG)
		}
		if e != api.OK {
			refused(t, f, v, e)
			continue
		}
		becomes(t, f, v, text, notesText(notes))
		// What is written, altered or not, is read back.
		fit, _, _ := loss.Fit(f, v)
		writes(t, f, fit, text)
	}
	for _, l := range everyChain(2) {
		checkChain(t, v, l)
	}
}

// TestSecond: the second way says what is written out.
func TestSecond(t *testing.T) {
	for _, c := range chained {
		got, notes, e := secondChain(read(t, c.v), c.l)
		if e != api.OK || !value.Same(got, read(t, c.want)) || notesText(notes) != c.notes {
			t.Errorf("the second chain of %s, %v: %s, %s, %d, want %s, %s", c.v, c.l, told(got), notesText(notes), e, c.want, c.notes)
		}
		check(t, read(t, c.v))
	}
	for _, c := range wrongs {
		text, want := marked(c.text, c.want)
		if _, fault := secondRead(c.f, text); fault != want {
			t.Errorf("the second fault of %s: %+v, want %+v", quoted(text), fault, want)
		}
		checkText(t, text)
	}
	for _, c := range readOnly {
		checkText(t, lines(c.text))
	}
	for _, c := range written {
		check(t, read(t, c.v))
	}
	each(t, func(f int, v api.Value, text string) { checkText(t, text) })
}

// TestEveryShortTable: all short texts of what matters to CSV.
func TestEveryShortTable(t *testing.T) {
	pieces := []string{"a", ",", `"`, "\n", "\r\n", "@", "0", "/", "~", "\u20ac"}
	var grow func(text string, n int)
	grow = func(text string, n int) {
		want, fault := secondRead(csv, text)
		if got, gotFault := conv.Read(csv, text); gotFault != fault || !value.Same(got, want) {
			t.Errorf("P19.1: Read(3, %q): %s, %+v, want %s, %+v", text, told(got), gotFault, told(want), fault)
		}
		if n == 0 {
			return
		}
		for _, piece := range pieces {
			grow(text+piece, n-1)
		}
	}
	grow("", 5)
	// Behind a head of two columns, the first of which has all in its name that may stand in one.
	pieces = pieces[:6]
	grow("\"a,\n\"\"\r\n\u20ac\",b\n", 6)
}

// TestEveryByte: each byte in a text of each format, and in a string, a key and a stamp.
func TestEveryByte(t *testing.T) {
	for b := range 256 {
		x := string([]byte{byte(b)})
		for _, text := range []string{x, "a" + x, `"` + x + `"`, "a = " + x, "a = '" + x + "'", x + " = 1", "a,b\n1," + x, "a,b\n" + x + ",2", "a," + x + "\n1,2", "a,b\n\"" + x + "\",@", "a" + x + "1"} {
			checkText(t, text)
		}
		for _, s := range []string{x, x + "a", "a" + x, "~" + x, x + "/" + x} {
			for _, v := range []api.Value{said(s), stamp(s), of(s, whole(1)), list(of(s, said(s))), list(of(s, null), stamp(s)), of("a", list(of(s, said(s)), said(s), null))} {
				check(t, v)
			}
		}
	}
}

// singles are values without parts, such as each format can say, and such as one of them cannot.
func singles() []api.Value {
	all := []api.Value{null, {Kind: api.Bool}, {Kind: api.Bool, N: 1}, whole(0), whole(-7), list(), pairs()}
	for _, s := range []string{"-0", "99999999999999999999", "0.0", "1.50", "1e5", "1E+05", "-0e0", strings.Repeat("9", 398), strings.Repeat("9", 399)} {
		all = append(all, num(s))
	}
	for _, s := range []string{"", "x", "null", "@x", "'", "5", "inf", "[]", "2020-01-01", "\r\n", `","`, "\u20ac", "\x7f"} {
		all = append(all, said(s))
	}
	for _, s := range []string{"x", " ", "null", "inf", "-nan", "INF", "2020-01-01", "2020-13-01", "12:00:00", "2020-01-01 12:00:00.5+01:00", "5", "1.5", "true", `",`} {
		all = append(all, stamp(s))
	}
	return all
}

// joined are lists and maps of one or two of these parts, in each order.
func joined(parts []api.Value) []api.Value {
	all := []api.Value{}
	for _, a := range parts {
		all = append(all, list(a), of("a", a), of("value", a))
		for _, b := range parts {
			all = append(all, list(a, b), pairs(pair("a", a), pair("b", b)), pairs(pair("a", a), pair("value", b)))
		}
	}
	return all
}

// TestEverySingle: each value without parts, alone, and once or twice in lists and maps.
func TestEverySingle(t *testing.T) {
	for _, x := range singles() {
		check(t, x)
		for _, v := range joined([]api.Value{x, whole(1)}) {
			check(t, v)
			check(t, list(v))
			check(t, of("value", v))
			check(t, list(v, x, v))
			check(t, pairs(pair("", v), pair("0", x), pair("~/", list(v))))
		}
	}
}

// TestEveryShape: values of each small shape, through each chain of up to three formats.
func TestEveryShape(t *testing.T) {
	few := []api.Value{null, whole(1), num("-0"), stamp("x"), list(), pairs()}
	all := everyChain(3)
	for _, v := range joined(append(few, joined(few[:5])[:16]...)) {
		for _, l := range all {
			checkChain(t, v, l)
		}
	}
}

// keys are those of grown values.
var keys = []string{"", "0", "1", "00", "10", "a", "a!", "a,b", "a/b", "b", "value", "~", "~k0", "\"", "\u20ac"}

// grow is a Good value.
func grow(random *rand.Rand, of []api.Value, depth int) api.Value {
	kind := random.Intn(3)
	if depth == 0 || kind == 0 {
		return of[random.Intn(len(of))]
	}
	if kind == 1 {
		v := list()
		for range random.Intn(4) {
			v.L = append(v.L, grow(random, of, depth-1))
		}
		return v
	}
	m := []api.Pair{}
	for _, i := range random.Perm(len(keys))[:random.Intn(4)] {
		m = append(m, pair(keys[i], grow(random, of, depth-1)))
	}
	v, _ := value.Map(m...)
	return v
}

// chance is some chain of up to six formats.
func chance(random *rand.Rand) []int {
	l := []int{}
	for range random.Intn(7) {
		l = append(l, formats[random.Intn(len(formats))])
	}
	return l
}

func TestGrown(t *testing.T) {
	random := rand.New(rand.NewSource(19))
	all := singles()
	for i := range 4000 {
		v := grow(random, all, 1+i%6)
		check(t, v)
		for range 4 {
			checkChain(t, v, chance(random))
		}
	}
}

// TestSpoilt: grown values with one part that may not be, somewhere.
func TestSpoilt(t *testing.T) {
	random := rand.New(rand.NewSource(1919))
	all, odd := singles(), notGood()
	for i := range 3000 {
		v := grow(random, all, 1+i%5)
		spoil(random, &v, odd[random.Intn(len(odd))])
		for _, f := range formats {
			unwritten(t, f, v, api.EARG)
			refused(t, f, v, api.EARG)
		}
		chains(t, v, nil, v, "")
	}
}

// spoil lays a part in at some place of a value.
func spoil(random *rand.Rand, v *api.Value, part api.Value) {
	switch {
	case len(v.L) > 0 && random.Intn(4) > 0:
		spoil(random, &v.L[random.Intn(len(v.L))], part)
	case len(v.M) > 0 && random.Intn(4) > 0:
		spoil(random, &v.M[random.Intn(len(v.M))].V, part)
	default:
		*v = part
	}
}

// TestGrownCommon: grown values that all formats can say, through each chain of up to three of them.
func TestGrownCommon(t *testing.T) {
	random := rand.New(rand.NewSource(191))
	all, parts := everyChain(3), []api.Value{}
	for _, x := range singles() {
		if x.Kind == api.Int || x.Kind == api.Bool || x.Kind == api.Str {
			parts = append(parts, x)
		}
	}
	for range 300 {
		v, chosen := list(), random.Perm(len(keys))[:1+random.Intn(4)]
		for range 1 + random.Intn(4) {
			m := []api.Pair{}
			for _, i := range chosen {
				m = append(m, pair(keys[i], parts[random.Intn(len(parts))]))
			}
			row, _ := value.Map(m...)
			v.L = append(v.L, row)
		}
		if !loss.Common(v) {
			t.Errorf("%s is not Common", told(v))
		}
		for _, l := range all {
			chains(t, v, l, v, "")
		}
	}
}

// some is one of these.
func some[T any](random *rand.Rand, of []T) T { return of[random.Intn(len(of))] }

// names and cells are those of grown tables.
var (
	names = []string{"a", "b", "c", "a/0", "a/1", "a/b", "b/c", "b/c/0", "0", "~0", "d,e", "\"", "f\ng", "\u20ac", "~", ""}
	cells = []string{"", "", "1", "x", "null", "[]", "'", "@x", "@", "2,3", "\"", "\n", "\r\n", "\u20ac", "y\"\"z", "true", "5.0", " "}
)

// grownTable is a text of CSV that may have clashes, with fields in quotes that need none, and line ends of
// either kind.
func grownTable(random *rand.Rand) string {
	n, text := 1+random.Intn(4), ""
	taken := random.Perm(len(names))
	for row := range 1 + random.Intn(4) {
		for column := range n {
			field := some(random, cells)
			if row == 0 {
				// Now and then a name is there twice.
				field = names[taken[max(0, column-random.Intn(12)/11)]]
			}
			if strings.ContainsAny(field, "\",\r\n") || random.Intn(3) == 0 {
				field = `"` + strings.ReplaceAll(field, `"`, `""`) + `"`
			}
			text += field
			if column < n-1 {
				text += ","
			}
		}
		text += some(random, []string{"\n", "\r\n"})
	}
	return strings.TrimSuffix(text, some(random, []string{"", "", "\n"}))
}

// TestGrownTables: texts of CSV, and such with a byte more, less or another one.
func TestGrownTables(t *testing.T) {
	random := rand.New(rand.NewSource(193))
	seen := map[api.Errno]int{}
	for range 12000 {
		text := grownTable(random)
		checkText(t, text)
		_, fault := conv.Read(csv, text)
		seen[fault.Err]++
		at := random.Intn(len(text) + 1)
		checkText(t, text[:at]+some(random, []string{",", "\"", "\n", "\r", "@", "~", "/"})+text[at:])
		checkText(t, text[:at]+text[min(at+1, len(text)):])
	}
	for _, e := range []api.Errno{api.OK, api.EARG, api.ESYNTAX, api.ETWICE, api.ECLASH} {
		if seen[e] < 200 {
			t.Errorf("of the tables just %d have the error %d", seen[e], e)
		}
	}
}

// TestGrownTexts: what is written of a grown value, spoilt in one byte, is told as the reader tells it.
func TestGrownTexts(t *testing.T) {
	random := rand.New(rand.NewSource(194))
	all := singles()
	for i := range 2000 {
		v := grow(random, all, 1+i%5)
		for _, f := range formats {
			text, _, e := conv.To(f, v)
			if e != api.OK {
				continue
			}
			checkText(t, text)
			at := random.Intn(len(text) + 1)
			checkText(t, text[:at]+some(random, []string{",", "\"", "\n", "[", "}", "=", ".", "9", "\x00", "\xff"})+text[at:])
		}
	}
}

// FuzzText: what is read of a text in each format, what it is converted to, and what comes of it in chains.
func FuzzText(f *testing.F) {
	for _, c := range wrongs {
		text, _ := marked(c.text, c.want)
		f.Add(text)
	}
	for _, c := range readOnly {
		f.Add(lines(c.text))
	}
	for _, c := range written {
		f.Add(c.json)
		f.Add(lines(c.toml))
		f.Add(lines(c.csv))
	}
	f.Fuzz(func(t *testing.T, text string) {
		checkText(t, text)
		for _, from := range formats {
			if v, fault := conv.Read(from, text); fault.Err == api.OK {
				check(t, v)
				check(t, stamps(v))
			}
		}
	})
}
