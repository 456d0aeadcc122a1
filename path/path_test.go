package path_test

import (
	"fmt"
	"math"
	"math/rand"
	"reflect"
	"slices"
	"strconv"
	"strings"
	"testing"

	"dragoman/api"
	"dragoman/path"
	"dragoman/value"
)

func key(s string) path.Step { return path.Step{Key: s} }

func at(n int) path.Step { return path.Step{At: n, Place: true} }

func steps(p ...path.Step) []path.Step { return p }

func number(n int64) api.Value { return api.Value{Kind: api.Int, N: n} }

func str(s string) api.Value { return api.Value{Kind: api.Str, S: s} }

func list(l ...api.Value) api.Value { return api.Value{Kind: api.List, L: l} }

func pairs(m ...api.Pair) api.Value { return api.Value{Kind: api.Map, M: m} }

func pair(key string, v api.Value) api.Pair { return api.Pair{Key: key, V: v} }

// samePath tells whether all fields of all steps are alike.
func samePath(a, b []path.Step) bool { return slices.Equal(a, b) }

// written are paths and their texts.
var written = []struct {
	p    []path.Step
	text string
}{
	{nil, ""},
	{steps(), ""},
	// The chapter's examples.
	{steps(key("a/b"), at(3)), "/a~1b/3"},
	{steps(key("3")), "/~k3"},
	// Plain keys.
	{steps(key("a")), "/a"},
	{steps(key("a"), key("b"), key("c")), "/a/b/c"},
	{steps(key("k")), "/k"},
	{steps(key("\u20ac\U0001F600")), "/\u20ac\U0001F600"},
	{steps(key(" \t\n\x00\x7f\"\\.=")), "/ \t\n\x00\x7f\"\\.="},
	{steps(key("\xff\xc0")), "/\xff\xc0"},
	// Empty keys.
	{steps(key("")), "/"},
	{steps(key(""), key("")), "//"},
	{steps(key(""), key("a"), key("")), "//a/"},
	{steps(key(""), at(0), key("")), "//0/"},
	// Keys with ~, with /, with both.
	{steps(key("~")), "/~0"},
	{steps(key("/")), "/~1"},
	{steps(key("~~")), "/~0~0"},
	{steps(key("//")), "/~1~1"},
	{steps(key("~/")), "/~0~1"},
	{steps(key("/~")), "/~1~0"},
	{steps(key("~0")), "/~00"},
	{steps(key("~1")), "/~01"},
	{steps(key("~01")), "/~001"},
	{steps(key("~10")), "/~010"},
	{steps(key("~/1")), "/~0~11"},
	{steps(key("/0")), "/~10"},
	{steps(key("a~b/c")), "/a~0b~1c"},
	{steps(key("/a/0")), "/~1a~10"},
	// Keys that are a place's digits.
	{steps(key("0")), "/~k0"},
	{steps(key("7")), "/~k7"},
	{steps(key("10")), "/~k10"},
	{steps(key("1234567890")), "/~k1234567890"},
	{steps(key("1000000000")), "/~k1000000000"},
	{steps(key("1000000001")), "/~k1000000001"},
	{steps(key("18446744073709551616")), "/~k18446744073709551616"},
	{steps(key("1" + strings.Repeat("0", 99))), "/~k1" + strings.Repeat("0", 99)},
	// Digits that are no place's.
	{steps(key("00")), "/00"},
	{steps(key("01")), "/01"},
	{steps(key("007")), "/007"},
	{steps(key("-1")), "/-1"},
	{steps(key("-0")), "/-0"},
	{steps(key("+1")), "/+1"},
	{steps(key("1.0")), "/1.0"},
	{steps(key("1e3")), "/1e3"},
	{steps(key("1_0")), "/1_0"},
	{steps(key("1x")), "/1x"},
	{steps(key("x1")), "/x1"},
	{steps(key(" 1")), "/ 1"},
	{steps(key("1 ")), "/1 "},
	{steps(key("1/2")), "/1~12"},
	{steps(key("1~")), "/1~0"},
	{steps(key("\u0661")), "/\u0661"},
	{steps(key("1:"), key("1/"), key("/1"), key(":1")), "/1:/1~1/~11/:1"},
	// Keys that begin with ~k.
	{steps(key("~k")), "/~k~0k"},
	{steps(key("~kx")), "/~k~0kx"},
	{steps(key("~k3")), "/~k~0k3"},
	{steps(key("~kx/")), "/~k~0kx~1"},
	{steps(key("~k~k")), "/~k~0k~0k"},
	{steps(key("~K")), "/~0K"},
	{steps(key("~~k")), "/~0~0k"},
	{steps(key("x~k")), "/x~0k"},
	{steps(key("3~k")), "/3~0k"},
	{steps(key("/k")), "/~1k"},
	{steps(key("~0k")), "/~00k"},
	// Places.
	{steps(at(0)), "/0"},
	{steps(at(1)), "/1"},
	{steps(at(10)), "/10"},
	{steps(at(999999999)), "/999999999"},
	{steps(at(1000000000)), "/1000000000"},
	{steps(at(0), at(0), at(20)), "/0/0/20"},
	{steps(key("0"), at(0), key("0")), "/~k0/0/~k0"},
}

// refused are texts of no path.
var refused = []string{
	// The first byte is no /.
	"a", "a/b", "x/", "0", "~", "~k", "~k3", "~0", "~1", " ", " /a", "\x00", "k/0", "\xff/", "1/a", "~1a",
	// A ~ with nothing behind it.
	"/~", "/a~", "/~/", "/~/a", "/a~/b", "/~0~", "/~~", "/1~", "/a/~", "/~k~", "/~k3~", "/~k~0k~",
	// A ~ with another letter behind it.
	"/~2", "/~9", "/~a", "/~K", "/a~k", "/~~0", "/~~1", "/~~k3", "/~ ", "/~-", "/a~2b", "/~0~2", "/~\x00", "/~\xff", "/~:",
	"/x~k3", "/~0~k", "/~k~k", "/~k~k3", "/~k~2", "/~k~0k~2", "/~k3~2",
	// ~k ahead of what needs none.
	"/~k", "/~k/", "/~ka", "/~kk", "/~kk3", "/~k007", "/~k00", "/~k-1", "/~k1x", "/~kx1", "/~k1.0", "/~k ", "/~k~0", "/~k~1", "/~k~00", "/~k~0K", "/~k~01k", "/~ka~0k", "/~k3~1", "/~k~13",
	"/a/~kb", "/~kb/a", "/~k3/~ka",
	// No ~k ahead of what needs it.
	"/~0k", "/~0kx", "/~0k3", "/a/~0k", "/~0k/a", "/~0k~0k", "/~0k~1",
	// Places above 1000000000.
	"/1000000001", "/1000000002", "/1999999999", "/2000000000", "/2147483647", "/2147483648", "/4294967295", "/4294967296", "/4294967297",
	"/9223372036854775807", "/9223372036854775808", "/18446744073709551615", "/18446744073709551616", "/18446744073709551617",
	"/10000000000", "/9999999999", "/a/1000000001", "/1000000001/a", "/0/1000000001",
	"/1" + strings.Repeat("0", 400), "/" + strings.Repeat("9", 400),
}

func TestText(t *testing.T) {
	for _, c := range written {
		if s := path.Text(c.p); s != c.text {
			t.Errorf("P5.1: Text(%v): %q, want %q", c.p, s, c.text)
		}
	}
	// What is not a step's own kind is not told.
	for _, c := range []struct {
		p    path.Step
		text string
	}{
		{path.Step{Key: "a", At: 5, Place: true}, "/5"},
		{path.Step{Key: "~/", At: 0, Place: true}, "/0"},
		{path.Step{Key: "a", At: 5}, "/a"},
		{path.Step{Key: "", At: 5}, "/"},
		{path.Step{Key: "5", At: 6}, "/~k5"},
	} {
		if s := path.Text(steps(c.p)); s != c.text {
			t.Errorf("P5.1: Text(%v): %q, want %q", c.p, s, c.text)
		}
	}
}

// TestOddPlaces: places that no path has are told as R7 tells numbers, and none of them panics.
func TestOddPlaces(t *testing.T) {
	for n, text := range map[int]string{
		1000000001:    "/1000000001",
		math.MaxInt64: "/9223372036854775807",
		-1:            "/-1",
		math.MinInt64: "/-9223372036854775808",
	} {
		if s := path.Text(steps(at(n))); s != text {
			t.Errorf("R7: Text(place %d): %q", n, s)
		}
	}
	// A path has no place below 0, so that these are a key's.
	if p, e := path.Parse("/-1"); e != api.OK || !samePath(p, steps(key("-1"))) {
		t.Errorf("P5.1: Parse(/-1): %v, %d", p, e)
	}
}

func TestParse(t *testing.T) {
	for _, c := range written {
		if p, e := path.Parse(c.text); e != api.OK || !samePath(p, c.p) {
			t.Errorf("P5.1: Parse(%q): %v, %d, want %v", c.text, p, e, c.p)
		}
	}
	for _, s := range refused {
		p, e := path.Parse(s)
		if e != api.ESYNTAX {
			t.Errorf("P5.1: Parse(%.40q): %v, %d", s, p, e)
		}
		if len(p) != 0 {
			t.Errorf("R2: Parse(%.40q) tells %v beside the error", s, p)
		}
	}
}

// TestOneWrongStep: one step without form is enough, wherever it stands.
func TestOneWrongStep(t *testing.T) {
	for _, wrong := range []string{"~", "~2", "~ka", "~0k", "1000000001"} {
		for i := range 4 {
			pieces := []string{"a", "0", "~k0", "~1"}
			pieces[i] = wrong
			s := "/" + strings.Join(pieces, "/")
			if p, e := path.Parse(s); e != api.ESYNTAX || len(p) != 0 {
				t.Errorf("P5.1: Parse(%q): %v, %d", s, p, e)
			}
		}
	}
}

// keyText writes a key byte by byte, as the chapter says it.
func keyText(k string) string {
	out := ""
	if n, err := strconv.ParseUint(k, 10, 64); err == nil && strconv.FormatUint(n, 10) == k || len(k) > 1 && k[:2] == "~k" {
		out = "~k"
	}
	for i := range len(k) {
		switch k[i] {
		case '~':
			out += "~0"
		case '/':
			out += "~1"
		default:
			out += k[i : i+1]
		}
	}
	return out
}

// texts are all texts of at most so many bytes, of these bytes.
func texts(bytes string, n int) []string {
	all := []string{""}
	for from := 0; n > 0; n-- {
		to := len(all)
		for _, s := range all[from:to] {
			for i := range len(bytes) {
				all = append(all, s+bytes[i:i+1])
			}
		}
		from = to
	}
	return all
}

// TestEveryShortText: a text is read just if a path is written so, and as that path; for this,
// each path that can have a text so short is written.
func TestEveryShortText(t *testing.T) {
	const bytes, longest = "/~k01a", 6
	byText := map[string][]path.Step{"": nil}
	last := map[string][]path.Step{"": nil}
	pieces := map[string]path.Step{}
	for _, k := range texts(bytes, longest-1) {
		if s := keyText(k); len(s) < longest {
			pieces[s] = key(k)
		}
	}
	for n := range 111112 {
		if s := strconv.Itoa(n); len(s) < longest && strings.Trim(s, "01") == "" {
			if _, twice := pieces[s]; twice {
				t.Fatalf("%q is a key's text and a place's", s)
			}
			pieces[s] = at(n)
		}
	}
	for len(last) > 0 {
		next := map[string][]path.Step{}
		for head, p := range last {
			for piece, step := range pieces {
				s := head + "/" + piece
				if len(s) > longest {
					continue
				}
				next[s] = append(slices.Clone(p), step)
				byText[s] = next[s]
			}
		}
		last = next
	}
	for s, p := range byText {
		if got := path.Text(p); got != s {
			t.Fatalf("P5.1: Text(%v): %q, want %q", p, got, s)
		}
	}
	for _, s := range texts(bytes, longest) {
		want, ok := byText[s]
		p, e := path.Parse(s)
		if ok != (e == api.OK) || !ok && e != api.ESYNTAX || !samePath(p, want) {
			t.Fatalf("P5.1: Parse(%q): %v, %d, want %v, %v", s, p, e, want, ok)
		}
	}
}

// TestEveryByte: only ~ and / are written otherwise than they are, only digits ask for ~k.
func TestEveryByte(t *testing.T) {
	for b := range 256 {
		for _, form := range []string{"%s", "a%s", "%sa", "1%s", "%s1", "~%s", "~k%s", "%sk", "%s%s"} {
			k := strings.ReplaceAll(form, "%s", string([]byte{byte(b)}))
			p := steps(key(k))
			s := "/" + keyText(k)
			if got := path.Text(p); got != s {
				t.Errorf("P5.1: Text(%v): %q, want %q", p, got, s)
			}
			if back, e := path.Parse(s); e != api.OK || !samePath(back, p) {
				t.Errorf("P5.1: Parse(%q): %v, %d", s, back, e)
			}
		}
		s := "/~" + string([]byte{byte(b)}) + "a"
		if _, e := path.Parse(s); (e == api.OK) != (b == '0' || b == '1') {
			t.Errorf("P5.1: Parse(%q): %d", s, e)
		}
	}
}

// checkText asks that what can be read is written so, and that a key of any bytes comes back.
func checkText(t *testing.T, s string) {
	p, e := path.Parse(s)
	if e == api.OK && path.Text(p) != s {
		t.Errorf("P5.1: Parse(%q): %v, but its text is %q", s, p, path.Text(p))
	}
	if e != api.OK && (e != api.ESYNTAX || len(p) != 0) {
		t.Errorf("P5.1: Parse(%q): %v, %d", s, p, e)
	}
	for _, step := range p {
		if step.Place && step.Key != "" || !step.Place && step.At != 0 || step.At < 0 || step.At > 1000000000 {
			t.Errorf("P5.1: Parse(%q): the step %v", s, step)
		}
	}
	half := len(s) / 2
	for _, q := range [][]path.Step{steps(key(s)), steps(key(s[:half]), at(half), key(s[half:]))} {
		if back, e := path.Parse(path.Text(q)); e != api.OK || !samePath(back, q) {
			t.Errorf("P5.1: Parse of Text(%v): %v, %d", q, back, e)
		}
	}
}

func FuzzText(f *testing.F) {
	for _, c := range written {
		f.Add(c.text)
	}
	for _, s := range refused {
		f.Add(s)
	}
	f.Fuzz(checkText)
}

// tree is {"": null, "0": 7, "a": [1, {"b": 2, "c": {}}, []], "b": {"/": [[3]]}, "s": "x"}.
func tree() api.Value {
	return pairs(
		pair("", api.Value{}),
		pair("0", number(7)),
		pair("a", list(number(1), pairs(pair("b", number(2)), pair("c", pairs())), list())),
		pair("b", pairs(pair("/", list(list(number(3)))))),
		pair("s", str("x")),
	)
}

const treeShown = `{"":null,"0":7,"a":[1,{"b":2,"c":{}},[]],"b":{"/":[[3]]},"s":"x"}`

// show writes a tree in one line.
func show(v api.Value) string {
	parts := []string{}
	switch v.Kind {
	case api.Null:
		return "null"
	case api.Int:
		return strconv.FormatInt(v.N, 10)
	case api.List:
		for _, x := range v.L {
			parts = append(parts, show(x))
		}
		return "[" + strings.Join(parts, ",") + "]"
	case api.Map:
		for _, x := range v.M {
			parts = append(parts, strconv.Quote(x.Key)+":"+show(x.V))
		}
		return "{" + strings.Join(parts, ",") + "}"
	case api.Str:
		return strconv.Quote(v.S)
	}
	return fmt.Sprint(int(v.Kind), "?", v.N, v.S)
}

// misfits are paths of which a step, the last or an earlier one, does not fit the tree whatever
// is asked for there: Get, Set and Drop alike refuse them.
var misfits = [][]path.Step{
	// A step of a place at a map, of a key at a list.
	steps(at(0)), steps(at(1)), steps(at(5)), steps(at(0), key("a")), steps(at(0), at(0)),
	steps(key("b"), at(0)), steps(key("b"), at(1)), steps(key("b"), at(0), at(0)), steps(key("a"), at(1), at(0)),
	steps(key("a"), key("b")), steps(key("a"), key("0")), steps(key("a"), key("")), steps(key("a"), key("1"), key("b")),
	steps(key("a"), at(2), key("0")), steps(key("a"), at(2), key("x")), steps(key("b"), key("/"), key("0")), steps(key("b"), key("/"), key("0"), at(0)),
	steps(key("a"), at(1), key("c"), at(0)),
	// Any step at what is neither.
	steps(key(""), key("")), steps(key(""), key("x")), steps(key(""), at(0)), steps(key("0"), key("0")), steps(key("0"), at(0)),
	steps(key("s"), key("x")), steps(key("s"), at(0)), steps(key("s"), at(1)), steps(key("a"), at(0), at(0)), steps(key("a"), at(0), key("a")),
	steps(key("a"), at(1), key("b"), key("b")), steps(key("a"), at(1), key("b"), at(0)), steps(key("b"), key("/"), at(0), at(0), at(0)),
	// A place below 0, or past the place behind the last.
	steps(key("a"), at(-1)), steps(key("a"), at(-3)), steps(key("a"), at(math.MinInt)), steps(key("a"), at(4)), steps(key("a"), at(1000000000)), steps(key("a"), at(1000000001)), steps(key("a"), at(math.MaxInt)),
	steps(key("a"), at(2), at(-1)), steps(key("a"), at(2), at(1)), steps(key("a"), at(-2), key("b")), steps(key("b"), key("/"), at(-1), at(0)),
	// A key that is not there, and the place behind the last, as an earlier step.
	steps(key("q"), key("b")), steps(key("q"), at(0)), steps(key("q"), key("q"), key("q")), steps(key("a"), at(1), key("q"), key("b")), steps(key("b"), key("q"), at(0)),
	steps(key("a"), at(3), key("b")), steps(key("a"), at(3), at(0)), steps(key("a"), at(2), at(0), at(0)), steps(key("b"), key("/"), at(1), at(0)), steps(key("b"), key("/"), at(0), at(1), at(0)),
}

// notYet are paths of which only the last step leads to nothing.
var notYet = [][]path.Step{
	steps(key("q")), steps(key("00")), steps(key("A")), steps(key("aa")), steps(key("\xff")), steps(key("a"), at(3)), steps(key("a"), at(2), at(0)),
	steps(key("a"), at(1), key("d")), steps(key("a"), at(1), key("c"), key("")), steps(key("b"), key("~")), steps(key("b"), key("/"), at(1)), steps(key("b"), key("/"), at(0), at(1)),
}

func TestGet(t *testing.T) {
	v := tree()
	for text, want := range map[string]string{
		"":          treeShown,
		"/":         "null",
		"/~k0":      "7",
		"/a":        `[1,{"b":2,"c":{}},[]]`,
		"/a/0":      "1",
		"/a/1":      `{"b":2,"c":{}}`,
		"/a/1/b":    "2",
		"/a/1/c":    "{}",
		"/a/2":      "[]",
		"/b":        `{"/":[[3]]}`,
		"/b/~1":     "[[3]]",
		"/b/~1/0":   "[3]",
		"/b/~1/0/0": "3",
		"/s":        `"x"`,
	} {
		p, _ := path.Parse(text)
		if x, ok := path.Get(v, p); !ok || show(x) != want {
			t.Errorf("P5.1: Get of %q: %s, %v, want %s", text, show(x), ok, want)
		}
	}
	for _, p := range slices.Concat(misfits, notYet) {
		x, ok := path.Get(v, p)
		if ok {
			t.Errorf("P5.1: Get of %v: %s", p, show(x))
		}
		if !reflect.DeepEqual(x, api.Value{}) {
			t.Errorf("R2: Get of %v tells %s beside false", p, show(x))
		}
	}
}

// TestGetLeaf: the empty path fits every value, and another none that is no list and no map,
// whatever stands in its fields.
func TestGetLeaf(t *testing.T) {
	for _, kind := range []api.Kind{api.Null, api.Bool, api.Int, api.Num, api.Str, api.Stamp, 8, -1} {
		v := api.Value{Kind: kind, N: 1, S: "1", L: []api.Value{number(1)}, M: []api.Pair{pair("a", number(1))}}
		if x, ok := path.Get(v, nil); !ok || !value.Same(x, v) {
			t.Errorf("P5.1: Get of kind %d, the empty path: %v, %v", kind, x, ok)
		}
		for _, p := range [][]path.Step{steps(at(0)), steps(at(1)), steps(key("a")), steps(key("b")), steps(key(""))} {
			_, ok := path.Get(v, p)
			_, set := path.Set(v, p, number(2))
			_, dropped := path.Drop(v, p)
			if ok || set != api.ENONE || dropped != api.ENONE {
				t.Errorf("P5.1: Get, Set, Drop of kind %d at %v: %v, %d, %d", kind, p, ok, set, dropped)
			}
		}
		if all := path.All(v); len(all) != 1 || len(all[0]) != 0 {
			t.Errorf("P5.1: All of kind %d: %v", kind, all)
		}
	}
}

func TestSet(t *testing.T) {
	v := tree()
	for _, c := range []struct {
		p    []path.Step
		want string
	}{
		{nil, "9"},
		{steps(), "9"},
		// What is there already.
		{steps(key("")), `{"":9,"0":7,"a":[1,{"b":2,"c":{}},[]],"b":{"/":[[3]]},"s":"x"}`},
		{steps(key("0")), `{"":null,"0":9,"a":[1,{"b":2,"c":{}},[]],"b":{"/":[[3]]},"s":"x"}`},
		{steps(key("a")), `{"":null,"0":7,"a":9,"b":{"/":[[3]]},"s":"x"}`},
		{steps(key("s")), `{"":null,"0":7,"a":[1,{"b":2,"c":{}},[]],"b":{"/":[[3]]},"s":9}`},
		{steps(key("a"), at(0)), `{"":null,"0":7,"a":[9,{"b":2,"c":{}},[]],"b":{"/":[[3]]},"s":"x"}`},
		{steps(key("a"), at(1)), `{"":null,"0":7,"a":[1,9,[]],"b":{"/":[[3]]},"s":"x"}`},
		{steps(key("a"), at(2)), `{"":null,"0":7,"a":[1,{"b":2,"c":{}},9],"b":{"/":[[3]]},"s":"x"}`},
		{steps(key("a"), at(1), key("b")), `{"":null,"0":7,"a":[1,{"b":9,"c":{}},[]],"b":{"/":[[3]]},"s":"x"}`},
		{steps(key("b"), key("/"), at(0), at(0)), `{"":null,"0":7,"a":[1,{"b":2,"c":{}},[]],"b":{"/":[[9]]},"s":"x"}`},
		// A key that is not there yet: first, between, last, in an empty map.
		{steps(key("a"), at(1), key("")), `{"":null,"0":7,"a":[1,{"":9,"b":2,"c":{}},[]],"b":{"/":[[3]]},"s":"x"}`},
		{steps(key("a"), at(1), key("a")), `{"":null,"0":7,"a":[1,{"a":9,"b":2,"c":{}},[]],"b":{"/":[[3]]},"s":"x"}`},
		{steps(key("a"), at(1), key("ba")), `{"":null,"0":7,"a":[1,{"b":2,"ba":9,"c":{}},[]],"b":{"/":[[3]]},"s":"x"}`},
		{steps(key("a"), at(1), key("d")), `{"":null,"0":7,"a":[1,{"b":2,"c":{},"d":9},[]],"b":{"/":[[3]]},"s":"x"}`},
		{steps(key("a"), at(1), key("c"), key("q")), `{"":null,"0":7,"a":[1,{"b":2,"c":{"q":9}},[]],"b":{"/":[[3]]},"s":"x"}`},
		{steps(key("Z")), `{"":null,"0":7,"Z":9,"a":[1,{"b":2,"c":{}},[]],"b":{"/":[[3]]},"s":"x"}`},
		{steps(key("\x00")), `{"":null,"\x00":9,"0":7,"a":[1,{"b":2,"c":{}},[]],"b":{"/":[[3]]},"s":"x"}`},
		{steps(key("\u00e9")), `{"":null,"0":7,"a":[1,{"b":2,"c":{}},[]],"b":{"/":[[3]]},"s":"x","` + "\u00e9" + `":9}`},
		// The place just behind a list's last.
		{steps(key("a"), at(3)), `{"":null,"0":7,"a":[1,{"b":2,"c":{}},[],9],"b":{"/":[[3]]},"s":"x"}`},
		{steps(key("a"), at(2), at(0)), `{"":null,"0":7,"a":[1,{"b":2,"c":{}},[9]],"b":{"/":[[3]]},"s":"x"}`},
		{steps(key("b"), key("/"), at(1)), `{"":null,"0":7,"a":[1,{"b":2,"c":{}},[]],"b":{"/":[[3],9]},"s":"x"}`},
		{steps(key("b"), key("/"), at(0), at(1)), `{"":null,"0":7,"a":[1,{"b":2,"c":{}},[]],"b":{"/":[[3,9]]},"s":"x"}`},
	} {
		x, e := path.Set(v, c.p, number(9))
		if e != api.OK || show(x) != c.want {
			t.Errorf("P5.1: Set at %v: %s, %d, want %s", c.p, show(x), e, c.want)
		}
		if got, ok := path.Get(x, c.p); !ok || show(got) != "9" {
			t.Errorf("P5.1: Set at %v, then Get: %s, %v", c.p, show(got), ok)
		}
	}
	for _, p := range misfits {
		x, e := path.Set(v, p, number(9))
		if e != api.ENONE {
			t.Errorf("P5.1: Set at %v: %s, %d", p, show(x), e)
		}
		if !reflect.DeepEqual(x, api.Value{}) {
			t.Errorf("R2: Set at %v tells %s beside the error", p, show(x))
		}
	}
}

// TestSetAny: what is set may be any value, of any kind, with parts of its own.
func TestSetAny(t *testing.T) {
	for _, x := range []api.Value{{}, {Kind: api.Bool, N: 1}, {Kind: api.Num, S: "1.50"}, str(""), {Kind: api.Stamp, S: "s"}, list(), pairs(), tree(), list(tree(), tree()), {Kind: 9, N: 4}} {
		for _, p := range slices.Concat([][]path.Step{nil, steps(key("")), steps(key("a"), at(1)), steps(key("b"))}, notYet) {
			got, e := path.Set(tree(), p, x)
			there, ok := path.Get(got, p)
			if e != api.OK || !ok || !value.Same(there, x) {
				t.Errorf("P5.1: Set at %v of %s: %s, %d", p, show(x), show(got), e)
			}
		}
	}
	// A tree into itself, and from within it.
	v := tree()
	x, e := path.Set(v, steps(key("a"), at(0)), v)
	if want := `{"":null,"0":7,"a":[` + treeShown + `,{"b":2,"c":{}},[]],"b":{"/":[[3]]},"s":"x"}`; e != api.OK || show(x) != want {
		t.Errorf("P5.1: Set of a tree within itself: %s, %d", show(x), e)
	}
	x, e = path.Set(v, steps(key("a")), v.M[2].V.L[1])
	if want := `{"":null,"0":7,"a":{"b":2,"c":{}},"b":{"/":[[3]]},"s":"x"}`; e != api.OK || show(x) != want {
		t.Errorf("P5.1: Set of a tree's part: %s, %d", show(x), e)
	}
}

func TestDrop(t *testing.T) {
	v := tree()
	for _, c := range []struct {
		p    []path.Step
		want string
	}{
		{steps(key("")), `{"0":7,"a":[1,{"b":2,"c":{}},[]],"b":{"/":[[3]]},"s":"x"}`},
		{steps(key("0")), `{"":null,"a":[1,{"b":2,"c":{}},[]],"b":{"/":[[3]]},"s":"x"}`},
		{steps(key("a")), `{"":null,"0":7,"b":{"/":[[3]]},"s":"x"}`},
		{steps(key("s")), `{"":null,"0":7,"a":[1,{"b":2,"c":{}},[]],"b":{"/":[[3]]}}`},
		// A list's first, middle, last, and its only one.
		{steps(key("a"), at(0)), `{"":null,"0":7,"a":[{"b":2,"c":{}},[]],"b":{"/":[[3]]},"s":"x"}`},
		{steps(key("a"), at(1)), `{"":null,"0":7,"a":[1,[]],"b":{"/":[[3]]},"s":"x"}`},
		{steps(key("a"), at(2)), `{"":null,"0":7,"a":[1,{"b":2,"c":{}}],"b":{"/":[[3]]},"s":"x"}`},
		{steps(key("b"), key("/"), at(0)), `{"":null,"0":7,"a":[1,{"b":2,"c":{}},[]],"b":{"/":[]},"s":"x"}`},
		{steps(key("b"), key("/"), at(0), at(0)), `{"":null,"0":7,"a":[1,{"b":2,"c":{}},[]],"b":{"/":[[]]},"s":"x"}`},
		{steps(key("b"), key("/")), `{"":null,"0":7,"a":[1,{"b":2,"c":{}},[]],"b":{},"s":"x"}`},
		{steps(key("a"), at(1), key("b")), `{"":null,"0":7,"a":[1,{"c":{}},[]],"b":{"/":[[3]]},"s":"x"}`},
		{steps(key("a"), at(1), key("c")), `{"":null,"0":7,"a":[1,{"b":2},[]],"b":{"/":[[3]]},"s":"x"}`},
	} {
		if x, e := path.Drop(v, c.p); e != api.OK || show(x) != c.want {
			t.Errorf("P5.1: Drop at %v: %s, %d, want %s", c.p, show(x), e, c.want)
		}
	}
	for _, p := range slices.Concat([][]path.Step{nil, {}}, misfits, notYet) {
		x, e := path.Drop(v, p)
		if e != api.ENONE {
			t.Errorf("P5.1: Drop at %v: %s, %d", p, show(x), e)
		}
		if !reflect.DeepEqual(x, api.Value{}) {
			t.Errorf("R2: Drop at %v tells %s beside the error", p, show(x))
		}
	}
}

// TestOtherFields: a place's key and a key's place mean nothing.
func TestOtherFields(t *testing.T) {
	for _, c := range []struct{ odd, plain []path.Step }{
		{steps(path.Step{Key: "a", At: 2}, path.Step{Key: "b", At: 0, Place: true}), steps(key("a"), at(0))},
		{steps(path.Step{Key: "a", At: -1}, path.Step{Key: "x", At: 1, Place: true}, path.Step{Key: "b", At: 1}), steps(key("a"), at(1), key("b"))},
		{steps(path.Step{Key: "q", At: 1}), steps(key("q"))},
		{steps(path.Step{Key: "a"}, path.Step{Key: "a", At: 3, Place: true}), steps(key("a"), at(3))},
		{steps(path.Step{Key: "a", Place: true}), steps(at(0))},
	} {
		if path.Cmp(c.odd, c.plain) != 0 || path.Cmp(c.plain, c.odd) != 0 {
			t.Errorf("P5.1: Cmp(%v, %v): %d", c.odd, c.plain, path.Cmp(c.odd, c.plain))
		}
		for name, call := range calls() {
			if got, want := call(tree(), c.odd), call(tree(), c.plain); got != want {
				t.Errorf("P5.1: %s at %v: %s, want %s", name, c.odd, got, want)
			}
		}
	}
}

// calls are Get, Set and Drop, each telling all that it answers.
func calls() map[string]func(v api.Value, p []path.Step) string {
	return map[string]func(v api.Value, p []path.Step) string{
		"Get": func(v api.Value, p []path.Step) string {
			x, ok := path.Get(v, p)
			return fmt.Sprint(show(x), ok)
		},
		"Set": func(v api.Value, p []path.Step) string {
			x, e := path.Set(v, p, list(number(9)))
			return fmt.Sprint(show(x), int(e))
		},
		"Drop": func(v api.Value, p []path.Step) string {
			x, e := path.Drop(v, p)
			return fmt.Sprint(show(x), int(e))
		},
	}
}

func TestAll(t *testing.T) {
	for _, c := range []struct {
		v    api.Value
		want []string
	}{
		{api.Value{}, []string{""}},
		{str("x"), []string{""}},
		{list(), []string{""}},
		{pairs(), []string{""}},
		{list(number(1), number(2)), []string{"", "/0", "/1"}},
		{pairs(pair("0", list(pairs(pair("0", number(1)))))), []string{"", "/~k0", "/~k0/0", "/~k0/0/~k0"}},
		{list(make([]api.Value, 12)...), []string{"", "/0", "/1", "/2", "/3", "/4", "/5", "/6", "/7", "/8", "/9", "/10", "/11"}},
		{tree(), []string{"", "/", "/~k0", "/a", "/a/0", "/a/1", "/a/1/b", "/a/1/c", "/a/2", "/b", "/b/~1", "/b/~1/0", "/b/~1/0/0", "/s"}},
	} {
		got := []string{}
		for _, p := range path.All(c.v) {
			got = append(got, path.Text(p))
			for _, step := range p {
				if step.Place && step.Key != "" || !step.Place && step.At != 0 {
					t.Errorf("R2: All of %s: the step %v", show(c.v), step)
				}
			}
		}
		if !slices.Equal(got, c.want) {
			t.Errorf("P5.1: All of %s: %q, want %q", show(c.v), got, c.want)
		}
	}
}

// rising are paths, each ahead of the next.
var rising = [][]path.Step{
	nil,
	steps(at(math.MinInt)),
	steps(at(-1)),
	steps(at(0)),
	steps(at(0), at(0)),
	steps(at(0), at(5)),
	steps(at(0), at(5), at(0)),
	steps(at(0), at(5), key("")),
	steps(at(0), at(10)),
	steps(at(0), key("")),
	steps(at(0), key("a")),
	steps(at(1)),
	steps(at(2)),
	steps(at(2), key("z"), key("z")),
	steps(at(10)),
	steps(at(1000000000)),
	steps(at(math.MaxInt)),
	steps(key("")),
	steps(key(""), at(0)),
	steps(key(""), key("")),
	steps(key("0")),
	steps(key("1")),
	steps(key("10")),
	steps(key("2")),
	steps(key("B")),
	steps(key("a")),
	steps(key("a"), at(0)),
	steps(key("a"), at(0), at(0)),
	steps(key("a"), at(1)),
	steps(key("a"), key("a")),
	steps(key("a"), key("a"), at(7)),
	steps(key("a"), key("b")),
	steps(key("a/")),
	steps(key("aa")),
	steps(key("ab")),
	steps(key("b")),
	steps(key("~")),
	steps(key("\u00e9")),
	steps(key("\uffff")),
	steps(key("\U00010000")),
	steps(key("\xff")),
}

func TestCmp(t *testing.T) {
	for i, a := range rising {
		for k, b := range rising {
			want := 0
			if i < k {
				want = -1
			} else if i > k {
				want = 1
			}
			if c := path.Cmp(a, slices.Clone(b)); c != want {
				t.Errorf("P5.1: Cmp(%v, %v): %d, want %d", a, b, c, want)
			}
		}
	}
	if path.Cmp(nil, []path.Step{}) != 0 || path.Cmp([]path.Step{}, nil) != 0 {
		t.Errorf("R4: Cmp holds nil and an empty path apart")
	}
}

// roomy is the tree, but every list and every map of it, empty ones too, has spare room.
func roomy() api.Value { return withRoom(tree()) }

func withRoom(v api.Value) api.Value {
	v.L = append(slices.Clone(v.L), number(77), list(str("room")))[:len(v.L)]
	v.M = append(slices.Clone(v.M), pair("room", number(77)), pair("a", list(str("room"))))[:len(v.M)]
	for i := range v.L {
		v.L[i] = withRoom(v.L[i])
	}
	for i := range v.M {
		v.M[i].V = withRoom(v.M[i].V)
	}
	return v
}

// whole tells all fields of a tree, spare room too.
func whole(v api.Value) string {
	out := fmt.Sprint(v.Kind, v.N, len(v.L), cap(v.L), len(v.M), cap(v.M)) + fmt.Sprintf("%q[", v.S)
	for _, x := range v.L[:cap(v.L)] {
		out += whole(x)
	}
	for _, p := range v.M[:cap(v.M)] {
		out += fmt.Sprintf("%q:", p.Key) + whole(p.V)
	}
	return out + "]"
}

// spoil writes over all lists of a tree, spare room too.
func spoil(v api.Value) {
	for i, x := range v.L[:cap(v.L)] {
		spoil(x)
		v.L[:cap(v.L)][i] = str("spoilt")
	}
	for i, p := range v.M[:cap(v.M)] {
		spoil(p.V)
		v.M[:cap(v.M)][i] = pair("spoilt", str("spoilt"))
	}
}

// apart tells whether no two lists of a tree share a place, spare room included.
func apart(v api.Value, seen map[any]int) bool {
	for i, x := range v.L[:cap(v.L)] {
		here := &v.L[:cap(v.L)][i]
		seen[here]++
		if seen[here] > 1 || !apart(x, seen) {
			return false
		}
	}
	for i, p := range v.M[:cap(v.M)] {
		here := &v.M[:cap(v.M)][i]
		seen[here]++
		if seen[here] > 1 || !apart(p.V, seen) {
			return false
		}
	}
	return true
}

// everyPath are paths that fit the tree, that would fit with one part more, and that do not fit.
func everyPath() [][]path.Step { return slices.Concat(path.All(tree()), notYet, misfits) }

// TestNotChanged: R4, what is handed in is not changed, spare room included.
func TestNotChanged(t *testing.T) {
	v, x := roomy(), roomy()
	before := whole(v)
	for _, q := range everyPath() {
		p := append(slices.Clone(q), key("room"), at(77))[:len(q)]
		path.Text(p)
		path.Cmp(p, p[:len(p)/2])
		path.Get(v, p)
		path.Set(v, p, x)
		path.Drop(v, p)
		if whole(v) != before || whole(x) != before {
			t.Fatalf("R4: at %v, a tree that is handed in is changed", q)
		}
		if room := p[:len(q)+2]; !samePath(room, append(slices.Clone(q), key("room"), at(77))) {
			t.Fatalf("R4: a path that is handed in is changed: %v, once %v", room, q)
		}
	}
	path.All(v)
	if whole(v) != before {
		t.Errorf("R4: All changes what it is handed")
	}
}

// TestNewMemory: R4, what Get, Set and Drop answer shares no list with what was handed in, nor do
// two lists of it.
func TestNewMemory(t *testing.T) {
	answers := map[string]func(v api.Value, p []path.Step, x api.Value) api.Value{
		"Get": func(v api.Value, p []path.Step, x api.Value) api.Value {
			got, _ := path.Get(v, p)
			return got
		},
		"Set": func(v api.Value, p []path.Step, x api.Value) api.Value {
			got, _ := path.Set(v, p, x)
			return got
		},
		"Set of itself": func(v api.Value, p []path.Step, x api.Value) api.Value {
			got, _ := path.Set(v, p, v)
			return got
		},
		"Set twice": func(v api.Value, p []path.Step, x api.Value) api.Value {
			got, _ := path.Set(list(v, x, v, x), slices.Concat(steps(at(2)), p), v)
			return got
		},
		"Drop": func(v api.Value, p []path.Step, x api.Value) api.Value {
			got, _ := path.Drop(v, p)
			return got
		},
		"Drop ahead of lists": func(v api.Value, p []path.Step, x api.Value) api.Value {
			got, _ := path.Drop(pairs(pair("a", v), pair("b", x), pair("c", v)), steps(key("a")))
			return got
		},
		"Drop twice": func(v api.Value, p []path.Step, x api.Value) api.Value {
			got, _ := path.Drop(list(v, x, v, x), slices.Concat(steps(at(2)), p))
			return got
		},
	}
	before := whole(roomy())
	for name, answer := range answers {
		for _, p := range everyPath() {
			v, x := roomy(), roomy()
			got := answer(v, p, x)
			as := whole(got)
			spoil(v)
			spoil(x)
			if whole(got) != as {
				t.Fatalf("R4: %s at %v keeps a list that it is handed", name, p)
			}
			v, x = roomy(), roomy()
			got = answer(v, p, x)
			if !apart(got, map[any]int{}) {
				t.Fatalf("R4: %s at %v answers two lists that share memory", name, p)
			}
			spoil(got)
			if whole(v) != before || whole(x) != before {
				t.Fatalf("R4: %s at %v answers a list that it is handed", name, p)
			}
		}
	}
}

// TestPathsApart: R4, no two paths of one answer share memory, and no two answers do.
func TestPathsApart(t *testing.T) {
	v := tree()
	want := []string{}
	for _, p := range path.All(v) {
		want = append(want, path.Text(p))
	}
	for i := range want {
		all := path.All(v)
		p := all[i][:cap(all[i])]
		for k := range p {
			p[k] = key("spoilt")
		}
		for k, q := range all {
			if k != i && path.Text(q) != want[k] {
				t.Errorf("R4: All: what is written into path %d is in path %d", i, k)
			}
		}
	}
	p, _ := path.Parse("/a/0")
	q, _ := path.Parse("/a/0")
	p[0] = key("spoilt")
	if path.Text(q) != "/a/0" {
		t.Errorf("R4: two answers of Parse share memory")
	}
}

// grown is a value that may be, of at most so many nodes.
func grown(random *rand.Rand, nodes int) api.Value {
	kind := random.Intn(3)
	if nodes < 2 || kind == 0 {
		return number(random.Int63n(100))
	}
	v := api.Value{Kind: api.List}
	if kind == 2 {
		v.Kind = api.Map
	}
	for left := nodes - 1 - random.Intn(2); left > 0; {
		x := grown(random, 1+random.Intn(left))
		left -= value.Size(x)
		if kind == 1 {
			v.L = append(v.L, x)
			continue
		}
		k := string("/~k019ab"[random.Intn(8)]) + string("/~k019ab"[random.Intn(8)])
		if slices.IndexFunc(v.M, func(p api.Pair) bool { return p.Key == k }) < 0 {
			v.M = append(v.M, pair(k, x))
		}
	}
	slices.SortFunc(v.M, func(a, b api.Pair) int { return strings.Compare(a.Key, b.Key) })
	return v
}

// TestGrown goes through many trees, and holds each call against the others at each node.
func TestGrown(t *testing.T) {
	random := rand.New(rand.NewSource(5))
	for range 500 {
		v := grown(random, 1+random.Intn(60))
		all := path.All(v)
		if len(all) != value.Size(v) {
			t.Fatalf("P5.1: All of %s: %d paths, want %d", show(v), len(all), value.Size(v))
		}
		for i, p := range all {
			if i > 0 && path.Cmp(all[i-1], p) != -1 {
				t.Fatalf("P5.1: All of %s: %v behind %v", show(v), p, all[i-1])
			}
			if back, e := path.Parse(path.Text(p)); e != api.OK || !samePath(back, p) {
				t.Fatalf("P5.1: Parse of Text(%v): %v, %d", p, back, e)
			}
			checkNode(t, v, p)
		}
	}
}

// checkNode asks what must hold at each node of a good tree.
func checkNode(t *testing.T, v api.Value, p []path.Step) {
	x, ok := path.Get(v, p)
	if same, e := path.Set(v, p, x); !ok || e != api.OK || !value.Same(same, v) {
		t.Fatalf("P5.1: Set of what Get tells at %v of %s: %s, %d", p, show(v), show(same), e)
	}
	mark := str("mark")
	marked, _ := path.Set(v, p, mark)
	if got, _ := path.Get(marked, p); !value.Good(marked) || !value.Same(got, mark) || value.Size(marked) != value.Size(v)-value.Size(x)+1 {
		t.Fatalf("P5.1: Set at %v of %s: %s", p, show(v), show(marked))
	}
	if len(p) == 0 {
		return
	}
	last := len(p) - 1
	dropped, e := path.Drop(v, p)
	if e != api.OK || !value.Good(dropped) || value.Size(dropped) != value.Size(v)-value.Size(x) {
		t.Fatalf("P5.1: Drop at %v of %s: %s, %d", p, show(v), show(dropped), e)
	}
	// A key goes back to where it was; a list's last too, its others have moved up.
	holder, _ := path.Get(v, p[:last])
	if p[last].Place && p[last].At != len(holder.L)-1 {
		next := append(slices.Clone(p[:last]), at(p[last].At+1))
		behind, _ := path.Get(v, next)
		if moved, ok := path.Get(dropped, p); !ok || !value.Same(moved, behind) {
			t.Fatalf("P5.1: Drop at %v of %s: %s", p, show(v), show(dropped))
		}
		return
	}
	if back, e := path.Set(dropped, p, x); e != api.OK || !value.Same(back, v) {
		t.Fatalf("P5.1: Set of what Drop took at %v of %s: %s, %d", p, show(v), show(back), e)
	}
}

// TestGreat: trees and paths far past the limits of a good value are gone through all the same.
func TestGreat(t *testing.T) {
	const depth = 60000
	v, p := number(1), []path.Step{}
	for i := range depth {
		if i%2 == 0 {
			v, p = list(v), append(p, at(0))
		} else {
			v, p = pairs(pair("k", v)), append(p, key("k"))
		}
	}
	slices.Reverse(p)
	if x, ok := path.Get(v, p); !ok || x.N != 1 {
		t.Errorf("P5.1: Get far down: %v, %v", x.N, ok)
	}
	set, e := path.Set(v, p, number(2))
	if x, ok := path.Get(set, p); e != api.OK || !ok || x.N != 2 {
		t.Errorf("P5.1: Set far down: %d", e)
	}
	dropped, e := path.Drop(v, p)
	if _, ok := path.Get(dropped, p); e != api.OK || ok {
		t.Errorf("P5.1: Drop far down: %d", e)
	}
	if back, e := path.Parse(path.Text(p)); e != api.OK || path.Cmp(back, p) != 0 {
		t.Errorf("P5.1: Parse of a long text: %d", e)
	}
	long := steps(key(strings.Repeat("~/", 1<<20)))
	if back, e := path.Parse(path.Text(long)); e != api.OK || path.Cmp(back, long) != 0 {
		t.Errorf("P5.1: Parse of a long key: %d", e)
	}
	wide := list(make([]api.Value, 100000)...)
	all := path.All(wide)
	if len(all) != 100001 || !samePath(all[100000], steps(at(99999))) {
		t.Errorf("P5.1: All of a long list: %d", len(all))
	}
}
