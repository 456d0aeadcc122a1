package cell_test

import (
	"math/big"
	"math/rand"
	"regexp"
	"strconv"
	"strings"
	"testing"
	"unicode/utf8"

	"dragoman/api"
	"dragoman/cell"
	"dragoman/dec"
	"dragoman/value"
)

// What a text looks like, said once more as regular expressions.
var (
	isWord   = regexp.MustCompile(`^(null|true|false|\[\]|\{\})$`)
	isNumber = regexp.MustCompile(`^-?(?:0|[1-9][0-9]*)(?:\.[0-9]+)?(?:[eE]([+-]?[0-9]+))?$`)
	isWhole  = regexp.MustCompile(`^(?:0|-?[1-9][0-9]*)$`)
	isStamp  = regexp.MustCompile(`^[ -~]{1,64}$`)
)

// numeric tells whether a text is a number's, with the library's big numbers.
func numeric(s string) bool {
	found := isNumber.FindStringSubmatch(s)
	if found == nil || len(s) > 400 {
		return false
	}
	if found[1] == "" {
		return true
	}
	power, ok := new(big.Int).SetString(found[1], 10)
	return ok && power.CmpAbs(big.NewInt(100000)) <= 0
}

// secondText writes a value by what its text looks like, and asks no reader.
func secondText(v api.Value) (string, bool) {
	if !value.Good(v) || value.Size(v) > 1 {
		return "", false
	}
	marked := v.S == "" || strings.IndexAny(v.S, "'@") == 0 || isWord.MatchString(v.S) || numeric(v.S)
	switch {
	case v.Kind == api.Str && marked:
		return "'" + v.S, true
	case v.Kind == api.Str || v.Kind == api.Num:
		return v.S, true
	case v.Kind == api.Stamp:
		return "@" + v.S, true
	case v.Kind == api.Int:
		return big.NewInt(v.N).String(), true
	case v.Kind == api.Bool:
		return strconv.FormatBool(v.N != 0), true
	}
	return map[api.Kind]string{api.Null: "null", api.List: "[]", api.Map: "{}"}[v.Kind], true
}

// secondValue reads a text by its first byte, and then by what the whole of it looks like.
func secondValue(s string) (api.Value, api.Errno) {
	if s == "" {
		return null, api.ENONE
	}
	switch {
	case s[0] == '@' && isStamp.MatchString(s[1:]):
		return stamp(s[1:]), api.OK
	case s[0] == '@':
		return null, api.ESYNTAX
	case s[0] == '\'':
		return secondString(s[1:])
	case isWord.MatchString(s):
		return map[string]api.Value{"null": null, "true": yes, "false": no, "[]": empty, "{}": bare}[s], api.OK
	case numeric(s) && isWhole.MatchString(s):
		if n, _ := new(big.Int).SetString(s, 10); n.IsInt64() {
			return whole(n.Int64()), api.OK
		}
		return num(s), api.OK
	case numeric(s):
		return num(s), api.OK
	}
	return secondString(s)
}

// secondString is a string, if it may be.
func secondString(s string) (api.Value, api.Errno) {
	if !utf8.ValidString(s) {
		return null, api.EUTF
	}
	if len(s) > 4096 {
		return null, api.ELIMIT
	}
	return said(s), api.OK
}

// checkText holds what a text is read as against the second reader. The value has that very text, but for a
// mark that was not needed: so no two texts without such a mark are one value's.
func checkText(t *testing.T, s string) {
	t.Helper()
	want, wrong := secondValue(s)
	if wrong != api.OK {
		refuses(t, s, wrong)
		return
	}
	reads(t, s, want)
	back, ok := cell.Text(want)
	if !ok || back != s && "'"+back != s {
		t.Errorf("P15.3: Text of Value(%s): %s, %v", short(s), short(back), ok)
	}
	if numeric(s) != dec.Good(s) {
		t.Errorf("P15.2: dec's Good(%s): %v", short(s), !numeric(s))
	}
}

// checkValue holds a value against the second writer, and reads its text back.
func checkValue(t *testing.T, v api.Value) {
	t.Helper()
	want, ok := secondText(v)
	if !ok {
		writesNothing(t, v)
		return
	}
	writes(t, v, want)
	checkText(t, want)
}

// checkSaid holds a text against the second reader, and the values that could have it as theirs against the
// second writer.
func checkSaid(t *testing.T, s string) {
	t.Helper()
	checkText(t, s)
	checkText(t, "'"+s)
	checkText(t, "@"+s)
	for _, kind := range []api.Kind{api.Str, api.Num, api.Stamp, api.Null} {
		checkValue(t, api.Value{Kind: kind, S: s})
	}
}

// The second reader and the second writer are right themselves.
func TestSecond(t *testing.T) {
	for _, c := range texts {
		if s, ok := secondText(c.v); s != c.text || !ok {
			t.Errorf("the second writer writes %s as %q, %v", told(c.v), s, ok)
		}
		if v, e := secondValue(c.text); e != api.OK || !value.Same(v, c.v) {
			t.Errorf("the second reader reads %q as %s, %d", c.text, told(v), e)
		}
		checkValue(t, c.v)
		checkSaid(t, c.text)
	}
	for _, v := range wrong() {
		checkValue(t, v)
	}
}

// everyShort are all texts of at most so many of these parts.
func everyShort(length int, parts ...string) []string {
	all, level := []string{""}, []string{""}
	for range length {
		next := []string{}
		for _, s := range level {
			for _, part := range parts {
				next = append(next, s+part)
			}
		}
		all = append(all, next...)
		level = next
	}
	return all
}

// Every short text of the parts that make a difference.
func TestEveryShortText(t *testing.T) {
	for _, s := range everyShort(5, "'", "@", "5", "x", "-", "\xff") {
		checkSaid(t, s)
	}
	for _, s := range everyShort(5, "0", "1", "-", ".", "e", "+") {
		checkSaid(t, s)
	}
	for _, s := range everyShort(3, "null", "true", "false", "[", "]", "{", "}", "'", "@", " ", "\n", "E", "\u20ac", "9223372036854775807", "100000") {
		checkSaid(t, s)
	}
}

// Each byte, and each two, in every place where they could make a difference.
func TestEveryByte(t *testing.T) {
	for b := range 256 {
		x := string([]byte{byte(b)})
		for _, word := range []string{"", "null", "true", "false", "[]", "{}", "5", "-0", "1.5", "1e5", "'", "@", "'x", "@x", "x"} {
			for at := range len(word) + 1 {
				checkSaid(t, word[:at]+x+word[at:])
				checkSaid(t, word[:at]+x+word[min(at+1, len(word)):])
			}
		}
		for other := range 256 {
			checkSaid(t, x+string([]byte{byte(other)}))
		}
	}
}

// Each letter is a string by itself, but for the digits and the two marks; and is read back.
func TestEveryLetter(t *testing.T) {
	for r := rune(0); r <= utf8.MaxRune; r++ {
		if !utf8.ValidRune(r) {
			continue
		}
		x, want := string(r), string(r)
		if strings.Contains("0123456789'@", x) {
			want = "'" + x
		}
		s, ok := cell.Text(said(x))
		v, e := cell.Value(s)
		if s != want || !ok || e != api.OK || v.Kind != api.Str || v.S != x {
			t.Fatalf("P15.1, P15.3: the letter %q: %q, %v, read back as %s, %d", x, s, ok, told(v), e)
		}
	}
}

// Ints about every power of two, and of ten, there and back.
func TestEveryPower(t *testing.T) {
	for _, base := range []int64{2, 10} {
		limit := new(big.Int).Lsh(big.NewInt(1), 66)
		for power := big.NewInt(1); power.Cmp(limit) < 0; power = new(big.Int).Mul(power, big.NewInt(base)) {
			for more := int64(-2); more <= 2; more++ {
				n := new(big.Int).Add(power, big.NewInt(more))
				for _, s := range []string{n.String(), new(big.Int).Neg(n).String()} {
					checkSaid(t, s)
				}
				if n.IsInt64() {
					checkValue(t, whole(n.Int64()))
					checkValue(t, whole(-n.Int64()))
				}
			}
		}
	}
}

// grow is a value, Good or not.
func grow(random *rand.Rand) api.Value {
	pieces := []string{"", "'", "@", "5", "0", "-", ".", "e", "E", "+", "null", "true", "false", "[]", "{}", "x", " ", "\n", "\u20ac", "\U0001F600", "\xff", "\x00", "100000", "9223372036854775808"}
	v := api.Value{Kind: api.Kind(random.Intn(9))}
	if v.Kind == api.Int || random.Intn(30) == 0 {
		v.N = int64(random.Uint64()) >> random.Intn(64)
	}
	if v.Kind == api.Bool {
		v.N = int64(random.Intn(3))
	}
	if v.Kind == api.Num || v.Kind == api.Str || v.Kind == api.Stamp || random.Intn(30) == 0 {
		for range random.Intn(5) {
			v.S += pieces[random.Intn(len(pieces))]
		}
	}
	if random.Intn(30) == 0 {
		v.L = list(grow(random)).L
	}
	if random.Intn(30) == 0 {
		v.M = pairs(pair("a", grow(random))).M
	}
	return v
}

// TestGrown: values are what the second writer tells, and no two of them have one text.
func TestGrown(t *testing.T) {
	random := rand.New(rand.NewSource(15))
	owners := map[string]api.Value{}
	for range 200000 {
		v := grow(random)
		checkValue(t, v)
		checkSaid(t, v.S)
		s, ok := cell.Text(v)
		if !ok {
			continue
		}
		if owner, there := owners[s]; there && !value.Same(owner, v) {
			t.Errorf("P15.3: %s and %s have one text, %q", told(owner), told(v), s)
		}
		owners[s] = v
	}
}

func FuzzText(f *testing.F) {
	for _, c := range texts {
		f.Add(c.text)
		f.Add(c.v.S)
	}
	f.Fuzz(func(t *testing.T, s string) {
		checkSaid(t, s)
	})
}
