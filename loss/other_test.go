package loss_test

import (
	"math/rand"
	"regexp"
	"slices"
	"strings"
	"testing"

	"dragoman/api"
	"dragoman/flat"
	"dragoman/jread"
	"dragoman/loss"
	"dragoman/path"
	"dragoman/tlex"
	"dragoman/tprint"
	"dragoman/tread"
	"dragoman/unflat"
	"dragoman/value"
)

var endless = regexp.MustCompile(`\A[+-]?(inf|nan)\z`)

// whats are the numbers of what a format cannot say of a node itself, with no thought of its parts.
func whats(f int, p []path.Step, x api.Value) []int {
	root, all := len(p) == 0, []int{}
	is := func(yes bool, what int) {
		if yes {
			all = append(all, what)
		}
	}
	switch f {
	case json:
		is(x.Kind == api.Stamp, 1)
	case toml:
		inList := !root && p[len(p)-1].Place
		short := x.Kind == api.Num && !strings.ContainsAny(x.S, ".eE")
		is(root && x.Kind != api.Map, 2)
		is(x.Kind == api.Stamp && !tlex.Stamp(x.S) && !endless.MatchString(x.S), 1)
		is(x.Kind == api.Null && !inList, 3)
		is(x.Kind == api.Null && inList, 4)
		is(short && len(x.S) <= 398, 5)
		is(short && len(x.S) > 398, 6)
	case csv:
		none := len(x.L)+len(x.M) == 0
		listed := root && (x.Kind != api.List || none)
		row := listed || len(p) == 1 && p[0].Place
		asMap := x.Kind == api.Map || root && x.Kind == api.List
		is(listed, 7)
		is(row && !asMap, 2)
		is(row && asMap && none, 8)
	}
	return all
}

// secondNotes are the notes that Fit must tell, asked node by node of path's All.
func secondNotes(f int, v api.Value) []loss.Note {
	notes := []loss.Note{}
	for _, p := range path.All(v) {
		x, _ := path.Get(v, p)
		for _, what := range whats(f, p, x) {
			notes = append(notes, loss.Note{Path: path.Text(p), What: what})
		}
	}
	return notes
}

// altered is a value with what notes say done to it, from the last one back, so that a root is wrapped behind
// all that is altered in it. What is left out at the root is gone with the map around it, if that comes.
func altered(v api.Value, notes []loss.Note) api.Value {
	out, gone := value.Copy(v), false
	for _, note := range slices.Backward(notes) {
		p, _ := path.Parse(note.Path)
		x, _ := path.Get(out, p)
		switch note.What {
		case 1, 6:
			x = said(x.S)
		case 2:
			x = of("value", x)
			if gone {
				x = pairs()
			}
		case 3:
			if gone = len(p) == 0; !gone {
				out, _ = path.Drop(out, p)
				continue
			}
		case 4:
			x = said("null")
		case 5:
			x = num(x.S + ".0")
		case 7:
			x = list(x)
		case 8:
			x = of("value", null)
		}
		out, _ = path.Set(out, p, x)
	}
	return out
}

// check holds what a value answers against what it must, in each format.
func check(t *testing.T, v api.Value) {
	t.Helper()
	for _, f := range formats {
		if !value.Good(v) {
			unfit(t, f, v, api.EARG)
			continue
		}
		notes := secondNotes(f, v)
		want := altered(v, notes)
		_, e := flat.Flat(want)
		if !value.Good(want) || f == csv && e != api.OK {
			unfit(t, f, v, api.ELIMIT)
			continue
		}
		fits(t, f, v, want, notesText(notes))
		writable(t, f, v)
	}
}

// writable tells that what Fit makes is read back as it is from the format's text (if that may be read), or
// table.
func writable(t *testing.T, f int, v api.Value) {
	t.Helper()
	out, _, _ := loss.Fit(f, v)
	back := out
	switch f {
	case toml:
		text := tprint.Print(out)
		if len(text) > api.MaxText {
			return
		}
		back, _ = tread.Parse(text)
	case csv:
		table, _ := flat.Flat(out)
		back, _, _, _ = unflat.Unflat(table)
	}
	if !value.Same(back, out) {
		t.Errorf("P18.2: Fit(%d, %s) is read back as %s", f, told(v), told(back))
	}
}

// TestSecond: the second way says what is written out.
func TestSecond(t *testing.T) {
	for i, cases := range [][]fitted{ofJSON, ofTOML, ofCSV} {
		for _, c := range cases {
			if got := notesText(secondNotes(i+1, read(t, c.v))); got != c.notes {
				t.Errorf("the second notes of %s: %s, want %s", c.v, got, c.notes)
			}
			check(t, read(t, c.v))
			check(t, read(t, c.want))
		}
	}
	for s := range may {
		check(t, read(t, s))
	}
	for s := range common {
		check(t, read(t, s))
	}
}

// singles are values without parts, such as each format can say, and such as one of them cannot.
func singles() []api.Value {
	all := []api.Value{null, {Kind: api.Bool}, {Kind: api.Bool, N: 1}, whole(0), whole(-7), list(), pairs()}
	for _, s := range []string{"-0", "99999999999999999999", "-9223372036854775809", "0.0", "1.50", "1e5", "1E5", "-0e0", "99999999999999999999.5", strings.Repeat("9", 398), strings.Repeat("9", 399), strings.Repeat("9", 400)} {
		all = append(all, num(s))
	}
	for _, s := range []string{"", "x", "null", "@x", "'", "5", "inf", "2020-01-01", "\n", "\u20ac"} {
		all = append(all, said(s))
	}
	for _, s := range []string{"x", " ", "null", "inf", "-inf", "+nan", "INF", "--inf", "2020-01-01", "2020-13-01", "12:00:00", "2020-01-01T12:00:00Z", "2020-01-01 12:00:00.5+01:00", "2020-01-01T", "5", "1.5", "0x1F", "true", strings.Repeat("x", 64)} {
		all = append(all, stamp(s))
	}
	return all
}

// joined are lists and maps of one or two of these parts, in each order.
func joined(parts []api.Value) []api.Value {
	all := []api.Value{}
	for _, a := range parts {
		all = append(all, list(a), of("a", a), of("value", a))
		for _, b := range parts {
			all = append(all, list(a, b), pairs(pair("a", a), pair("b", b)))
		}
	}
	return all
}

// TestEverySingle: each value without parts, alone, and once or twice in lists and maps.
func TestEverySingle(t *testing.T) {
	for _, x := range singles() {
		check(t, x)
		for _, v := range joined([]api.Value{x, whole(1)}) {
			check(t, v)
			check(t, list(v))
			check(t, of("k", v))
			check(t, list(v, x, v))
			check(t, pairs(pair("", v), pair("0", x), pair("~/", list(v))))
		}
	}
	for _, v := range joined(singles()) {
		check(t, v)
	}
}

// TestEveryShape: values of each small shape.
func TestEveryShape(t *testing.T) {
	few := []api.Value{null, whole(1), num("-0"), stamp("x"), list(), pairs()}
	for _, v := range joined(append(few, joined(few)...)) {
		check(t, v)
	}
}

// TestEveryByte: each byte as a key on the way to what is altered, and as a stamp.
func TestEveryByte(t *testing.T) {
	for b := range 256 {
		x := string([]byte{byte(b)})
		for _, s := range []string{x, x + "a", "a" + x, "~" + x, "~k" + x, "0" + x, "1" + x, x + "0", x + "/" + x} {
			check(t, of(s, null))
			check(t, of(s, of(s, list(null, of(s, stamp("x"))))))
			check(t, list(of(s, num("-0")), pairs()))
			check(t, list(stamp(s), of("a", stamp(s))))
			check(t, said(s))
		}
	}
}

// keys are those of grown values.
var keys = []string{"", "0", "1", "00", "10", "a", "a!", "aa", "a/b", "b", "value", "~", "~k", "~k0", "\u20ac"}

// grow is a Good value.
func grow(random *rand.Rand, of []api.Value, depth int) api.Value {
	kind := random.Intn(3)
	if depth == 0 || kind == 0 {
		return of[random.Intn(len(of))]
	}
	if kind == 1 {
		v := list()
		for range random.Intn(4) {
			v.L = append(v.L, grow(random, of, depth-1))
		}
		return v
	}
	m := []api.Pair{}
	for _, i := range random.Perm(len(keys))[:random.Intn(4)] {
		m = append(m, pair(keys[i], grow(random, of, depth-1)))
	}
	v, _ := value.Map(m...)
	return v
}

func TestGrown(t *testing.T) {
	random := rand.New(rand.NewSource(18))
	all := singles()
	for i := range 20000 {
		check(t, grow(random, all, 1+i%6))
	}
}

// TestSpoilt: grown values with one part that may not be, somewhere.
func TestSpoilt(t *testing.T) {
	random := rand.New(rand.NewSource(1818))
	all, odd := singles(), notGood()
	for i := range 5000 {
		v := grow(random, all, 1+i%5)
		spoil(random, &v, odd[random.Intn(len(odd))])
		check(t, v)
		if value.Good(v) || loss.Common(v) {
			t.Errorf("P18.1: %s is not spoilt", told(v))
		}
	}
}

// spoil lays a part in at some place of a value.
func spoil(random *rand.Rand, v *api.Value, part api.Value) {
	switch {
	case len(v.L) > 0 && random.Intn(4) > 0:
		spoil(random, &v.L[random.Intn(len(v.L))], part)
	case len(v.M) > 0 && random.Intn(4) > 0:
		spoil(random, &v.M[random.Intn(len(v.M))].V, part)
	default:
		*v = part
	}
}

// isCommon tells whether a Good value is one that all formats can say: by its rows' keys as one text.
func isCommon(v api.Value) bool {
	heads := map[string]bool{}
	for _, x := range v.L {
		head := "-"
		for _, p := range x.M {
			if p.V.Kind != api.Int && p.V.Kind != api.Bool && p.V.Kind != api.Str {
				return false
			}
			head += "|" + p.Key
		}
		heads[head] = true
	}
	return len(heads) == 1 && !heads["-"]
}

// TestGrownCommon: lists of maps that are Common, or all but.
func TestGrownCommon(t *testing.T) {
	random := rand.New(rand.NewSource(181))
	parts, yes := []api.Value{whole(1), {Kind: api.Bool}, {Kind: api.Bool, N: 1}, said("x"), said("")}, 0
	odd := append(singles(), pairs(pair("", whole(1)), pair("1", whole(1))))
	for i := range 20000 {
		v, n := list(), random.Intn(3)
		for range 1 + random.Intn(3) {
			m := pairs()
			for _, key := range keys[:n] {
				m.M = append(m.M, pair(key, parts[random.Intn(len(parts))]))
			}
			v.L = append(v.L, m)
		}
		if i%2 == 0 {
			spoil(random, &v, odd[random.Intn(len(odd))])
		}
		want := isCommon(v)
		if loss.Common(v) != want {
			t.Errorf("P18.1: Common of %s: %v", told(v), !want)
		}
		if want {
			yes++
			fits(t, json, v, v, "")
			fits(t, csv, v, v, "")
			fits(t, toml, v, of("value", v), ":2")
		}
	}
	if yes < 4000 || yes > 16000 {
		t.Errorf("of 20000 values %d are Common", yes)
	}
}

// FuzzText: what is read of a text is fitted as the second way says.
func FuzzText(f *testing.F) {
	for _, cases := range [][]fitted{ofJSON, ofTOML, ofCSV} {
		for _, c := range cases {
			f.Add(c.v)
		}
	}
	for s := range common {
		f.Add(s)
	}
	f.Fuzz(func(t *testing.T, text string) {
		if v, fault := jread.Parse(text); fault.Err == api.OK {
			check(t, stamps(v))
			if loss.Common(v) != isCommon(v) {
				t.Errorf("P18.1: Common of %s: %v", told(v), loss.Common(v))
			}
		}
	})
}
