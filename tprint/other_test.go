package tprint_test

import (
	"fmt"
	"math/rand"
	"reflect"
	"regexp"
	"strconv"
	"strings"
	"testing"
	"unicode/utf8"
	"unsafe"

	"dragoman/api"
	"dragoman/jread"
	"dragoman/tprint"
	"dragoman/tread"
	"dragoman/value"
)

// escapes are the letters that are not written as they are.
var escapes = func() *strings.Replacer {
	all := []string{`"`, `\"`, `\`, `\\`, "\b", `\b`, "\t", `\t`, "\n", `\n`, "\f", `\f`, "\r", `\r`, "\x7f", `\u007f`}
	for b := range byte(32) {
		if !strings.Contains("\b\t\n\f\r", string(rune(b))) {
			all = append(all, string(rune(b)), fmt.Sprintf(`\u%04x`, b))
		}
	}
	return strings.NewReplacer(all...)
}()

// quoted is what TQuote must write of letters.
func quoted(s string) string { return `"` + escapes.Replace(s) + `"` }

var bareKey = regexp.MustCompile(`\A[A-Za-z0-9_-]+\z`)

// keyOf is the text that a key must have.
func keyOf(key string) string {
	if bareKey.MatchString(key) {
		return key
	}
	return quoted(key)
}

// inLine is the text that a value must have within a line.
func inLine(v api.Value) string {
	parts := []string{}
	for _, part := range v.L {
		parts = append(parts, inLine(part))
	}
	for _, p := range v.M {
		parts = append(parts, keyOf(p.Key)+" = "+inLine(p.V))
	}
	all := strings.Join(parts, ", ")
	return [...]string{"?", fmt.Sprint(v.N == 1), fmt.Sprint(v.N), v.S, quoted(v.S), "[" + all + "]", "{" + all + "}", v.S}[v.Kind]
}

// block is a header with its plain pairs: a text of TOML is blocks with a byte 10 between.
type block struct {
	header string
	pairs  []string
}

// blocks are those of a table and of all below it, the table's own first.
func blocks(header string, path []string, m []api.Pair) []block {
	own, below := block{header: header}, []block{}
	for _, p := range m {
		here := append(append([]string{}, path...), keyOf(p.Key))
		name := strings.Join(here, ".")
		maps := 0
		for _, part := range p.V.L {
			if part.Kind == api.Map {
				maps++
			}
		}
		switch {
		case p.V.Kind == api.Map:
			below = append(below, blocks("["+name+"]\n", here, p.V.M)...)
		case maps > 0 && maps == len(p.V.L):
			for _, part := range p.V.L {
				below = append(below, blocks("[["+name+"]]\n", here, part.M)...)
			}
		default:
			own.pairs = append(own.pairs, keyOf(p.Key)+" = "+inLine(p.V)+"\n")
		}
	}
	return append([]block{own}, below...)
}

// expected is the text that Print must answer, worked out in another way.
func expected(v api.Value) string {
	texts := []string{}
	for i, b := range blocks("", nil, v.M) {
		if i > 0 || len(b.pairs) > 0 {
			texts = append(texts, b.header+strings.Join(b.pairs, ""))
		}
	}
	return strings.Join(texts, "\n")
}

var (
	day     = `\d{4}-(0[1-9]|1[0-2])-(0[1-9]|[12]\d|3[01])`
	hour    = `([01]\d|2[0-3]):[0-5]\d`
	second  = hour + `:([0-5]\d|60)(\.\d{1,9})?`
	toml    = regexp.MustCompile(`\A([+-]?(inf|nan)|` + day + `|` + second + `|` + day + `[Tt ]` + second + `([Zz]|[+-]` + hour + `)?)\z`)
	noDay   = regexp.MustCompile(`\A\d{4}-(02-3\d|(04|06|09|11)-31)`)
	leapDay = regexp.MustCompile(`\A(\d\d)(\d\d)-02-29`)
)

// isStamp tells whether a text is a stamp of TOML.
func isStamp(s string) bool {
	if !toml.MatchString(s) || noDay.MatchString(s) {
		return false
	}
	if leap := leapDay.FindStringSubmatch(s); leap != nil {
		century, _ := strconv.Atoi(leap[1])
		year, _ := strconv.Atoi(leap[2])
		return year%4 == 0 && year != 0 || year == 0 && century%4 == 0
	}
	return true
}

// mayBe tells whether a Good map may be TOML, by all of its nodes in a row.
func mayBe(v api.Value) bool {
	for rest := []api.Value{v}; len(rest) > 0; rest = rest[1:] {
		part := rest[0]
		rest = append(rest, part.L...)
		for _, p := range part.M {
			rest = append(rest, p.V)
		}
		if part.Kind == api.Null || part.Kind == api.Num && !strings.Contains(part.S, ".") && !strings.Contains(strings.ToLower(part.S), "e") || part.Kind == api.Stamp && !isStamp(part.S) {
			return false
		}
	}
	return v.Kind == api.Map
}

// check holds what a Good value answers against what it must.
func check(t *testing.T, v api.Value) {
	t.Helper()
	if mayBe(v) {
		writes(t, v, expected(v))
	} else {
		writesNothing(t, v)
	}
}

// TestExpected: the second way agrees with what is written out.
func TestExpected(t *testing.T) {
	for _, c := range tables {
		check(t, fromJSON(t, c.json))
	}
	for _, c := range singles {
		for _, v := range around(c.v) {
			check(t, v)
		}
	}
	for _, part := range unsayable {
		for _, v := range around(part) {
			check(t, v)
		}
	}
	for _, c := range keys {
		if got := keyOf(c.key); got != c.text {
			t.Errorf("%s: %s, want %s", short(c.key), short(got), short(c.text))
		}
	}
}

// TestEveryLetter: each letter, in a key and in a string; alone, if it is of the first ones.
func TestEveryLetter(t *testing.T) {
	const most = api.MaxStr / utf8.UTFMax
	piece := []rune{}
	try := func() {
		s := string(piece)
		k := keyOf(s)
		if got := tprint.Key(s); got != k {
			t.Errorf("P12.1: Key(%s): %s, want %s", short(s), short(got), short(k))
		}
		writes(t, of(s, said(s)), k+" = "+quoted(s)+"\n")
		writes(t, of("x", of(s, of(s, bare))), "[x]\n\n[x."+k+"]\n\n[x."+k+"."+k+"]\n")
		writes(t, of(s, list(of(s, said(s)), said(s))), k+" = [{"+k+" = "+quoted(s)+"}, "+quoted(s)+"]\n")
		piece = piece[:0]
	}
	for r := rune(0); r <= utf8.MaxRune; r++ {
		if !utf8.ValidRune(r) {
			continue
		}
		piece = append(piece, r)
		if r < 256 || len(piece) == most {
			try()
		}
	}
	try()
}

// TestKeyOfTwo: each key of two bytes.
func TestKeyOfTwo(t *testing.T) {
	for a := range 128 {
		for b := range 128 {
			s := string([]byte{byte(a), byte(b)})
			if got := tprint.Key(s); got != keyOf(s) {
				t.Errorf("P12.1: Key(%q): %s, want %s", s, got, keyOf(s))
			}
		}
	}
}

// joined are lists and maps of one or two of these parts, in each order.
func joined(parts []api.Value) []api.Value {
	all := []api.Value{}
	for _, a := range parts {
		all = append(all, list(a), of("a", a))
		for _, b := range parts {
			all = append(all, list(a, b), pairs(pair("a", a), pair("b", b)))
		}
	}
	return all
}

// TestEveryShape: lists and maps of each small shape, as the whole, and in a map, alone and beside a plain pair.
func TestEveryShape(t *testing.T) {
	few := []api.Value{whole(1), empty, bare}
	for _, v := range joined(append(few, joined(few)...)) {
		check(t, of("k", v))
		check(t, v)
		check(t, pairs(pair("a", v), pair("b", whole(1)), pair("c", v)))
	}
}

// texts are the strings and keys of which grown trees are made.
var texts = []string{"", "a", "b", "A", "10", "9", "-", "a.b", " ", "\n", "\x00", "\x1f\x7f", `"`, `"""`, `\`, `\u0041`, "a\"b\\c\td", "\u00e9", "e\u0301", "\u20ac", "\u2028", "\uffff", "\U0001F600", "[", "]", "[[a]]", "{", "}", "=", ",", "#", "'", "true", "1.5", "inf", "  x  "}

// grow makes a Good value at random; one in so many of its parts is of those that TOML cannot say, if any.
func grow(random *rand.Rand, depth, oneIn int) api.Value {
	if oneIn > 0 && random.Intn(oneIn) == 0 {
		return unsayable[random.Intn(len(unsayable))]
	}
	kind := random.Intn(5)
	switch {
	case kind == 0 || depth == 1:
		if n := random.Intn(len(singles) + len(texts)); n < len(texts) {
			return said(texts[n])
		}
		for {
			if v := singles[random.Intn(len(singles))].v; len(v.S) < 100 {
				return v
			}
		}
	case kind == 1:
		v := empty
		for range random.Intn(4) {
			v.L = append(v.L, grow(random, depth-1, oneIn))
		}
		return v
	case kind == 2:
		v := empty
		for range random.Intn(4) {
			v.L = append(v.L, growMap(random, depth-1, oneIn))
		}
		return v
	}
	return growMap(random, depth, oneIn)
}

// growMap makes a map so.
func growMap(random *rand.Rand, depth, oneIn int) api.Value {
	if depth <= 1 {
		return bare
	}
	m := []api.Pair{}
	for _, i := range random.Perm(len(texts))[:random.Intn(5)] {
		m = append(m, pair(texts[i], grow(random, depth-1, oneIn)))
	}
	v, _ := value.Map(m...)
	return v
}

func TestGrown(t *testing.T) {
	random := rand.New(rand.NewSource(12))
	for i := range 20000 {
		v := growMap(random, 1+random.Intn(8), []int{0, 0, 20}[i%3])
		if value.Good(v) {
			check(t, v)
		}
	}
}

// TestSpoilt: grown maps with one part that may not be, somewhere.
func TestSpoilt(t *testing.T) {
	random := rand.New(rand.NewSource(1212))
	spoils := append(wrong(), unsayable...)
	for range 20000 {
		v := growMap(random, 1+random.Intn(6), 0)
		spoil(random, &v, spoils[random.Intn(len(spoils))])
		writesNothing(t, v)
	}
}

// spoil lays a part in at some place of a value.
func spoil(random *rand.Rand, v *api.Value, part api.Value) {
	switch {
	case len(v.L) > 0 && random.Intn(4) > 0:
		spoil(random, &v.L[random.Intn(len(v.L))], part)
	case len(v.M) > 0 && random.Intn(4) > 0:
		spoil(random, &v.M[random.Intn(len(v.M))].V, part)
	default:
		*v = part
	}
}

// roomy is a copy with spare room in each list, filled.
func roomy(v api.Value) api.Value {
	l, m := []api.Value{}, []api.Pair{}
	for _, part := range v.L {
		l = append(l, roomy(part))
	}
	for _, p := range v.M {
		m = append(m, pair(p.Key, roomy(p.V)))
	}
	v.L = append(l, said("spare"), null)[:len(l)]
	v.M = append(m, pair("spare", null), pair("spare", bare))[:len(m)]
	return v
}

// withRoom is a copy in which spare room is not spare: all of it can be held against another.
func withRoom(v api.Value) api.Value {
	l, m := v.L[:cap(v.L)], v.M[:cap(v.M)]
	v.L, v.M = nil, nil
	for _, part := range l {
		v.L = append(v.L, withRoom(part))
	}
	for _, p := range m {
		v.M = append(v.M, pair(p.Key, withRoom(p.V)))
	}
	return v
}

// TestArguments: R4 and R5, what is handed in stays as it is, and the answer hangs on it alone.
func TestArguments(t *testing.T) {
	random := rand.New(rand.NewSource(4))
	spoils := wrong()
	for i := range 2000 {
		v := growMap(random, 1+random.Intn(5), 30)
		if i%3 == 0 {
			spoil(random, &v, spoils[random.Intn(len(spoils))])
		}
		v = roomy(v)
		before := withRoom(v)
		may, text := tprint.May(v), tprint.Print(v)
		if !reflect.DeepEqual(withRoom(v), before) {
			t.Fatalf("R4: %s was changed", told(before))
		}
		if plain := value.Copy(v); tprint.May(plain) != may || tprint.Print(plain) != text || tprint.Print(v) != text {
			t.Fatalf("R5: %s is written in two ways", told(v))
		}
	}
}

// TestKeyIsNew: rule 7 of the language, an answer shares no memory with what was handed in.
func TestKeyIsNew(t *testing.T) {
	for _, s := range []string{"a", "1-_", strings.Repeat("x", 5000)} {
		s = strings.Clone(s)
		if unsafe.StringData(tprint.Key(s)) == unsafe.StringData(s) {
			t.Errorf("R4: Key(%s) answers the memory of its argument", short(s))
		}
	}
}

// FuzzText: what tread reads of a text may be TOML; it is written in the one way, and read back. So is what
// jread reads, if it may be TOML.
func FuzzText(f *testing.F) {
	for _, c := range tables {
		f.Add(c.json)
		f.Add(lines(c.text))
	}
	for _, c := range singles {
		if len(c.text) < 200 {
			f.Add("k = " + c.text)
			f.Add("[[k]]\nx = [" + c.text + ", {y = " + c.text + "}]")
		}
	}
	f.Fuzz(func(t *testing.T, text string) {
		if v, fault := tread.Parse(text); fault.Err == api.OK {
			writes(t, v, expected(v))
		}
		if v, fault := jread.Parse(text); fault.Err == api.OK {
			check(t, v)
		}
	})
}
