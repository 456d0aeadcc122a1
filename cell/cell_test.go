package cell_test

import (
	"fmt"
	"math"
	"reflect"
	"strings"
	"testing"
	"unsafe"

	"dragoman/api"
	"dragoman/cell"
	"dragoman/value"
)

var (
	null  = api.Value{}
	yes   = api.Value{Kind: api.Bool, N: 1}
	no    = api.Value{Kind: api.Bool}
	empty = api.Value{Kind: api.List}
	bare  = api.Value{Kind: api.Map}
)

func whole(n int64) api.Value { return api.Value{Kind: api.Int, N: n} }

func num(s string) api.Value { return api.Value{Kind: api.Num, S: s} }

func said(s string) api.Value { return api.Value{Kind: api.Str, S: s} }

func stamp(s string) api.Value { return api.Value{Kind: api.Stamp, S: s} }

func list(l ...api.Value) api.Value { return api.Value{Kind: api.List, L: l} }

func pair(key string, v api.Value) api.Pair { return api.Pair{Key: key, V: v} }

func pairs(m ...api.Pair) api.Value { return api.Value{Kind: api.Map, M: m} }

// short tells a head, so that what is long can be told.
func short(s string) string {
	if len(s) <= 80 {
		return fmt.Sprintf("%q", s)
	}
	return fmt.Sprintf("%q and so on, %d bytes", s[:80], len(s))
}

// told tells a head of a value.
func told(v api.Value) string { return fmt.Sprintf("%.200s", fmt.Sprintf("%+v", v)) }

// reads tells that a text is read as just this value.
func reads(t *testing.T, s string, want api.Value) {
	t.Helper()
	if got, e := cell.Value(s); e != api.OK || !value.Same(got, want) || !value.Good(got) {
		t.Errorf("P15.2: Value(%s): %s, %d, want %s", short(s), told(got), e, told(want))
	}
}

// refuses tells that a text is read as nothing, with this error.
func refuses(t *testing.T, s string, want api.Errno) {
	t.Helper()
	if got, e := cell.Value(s); e != want || !reflect.DeepEqual(got, api.Value{}) {
		t.Errorf("P15.2: Value(%s): %s, %d, want %d", short(s), told(got), e, want)
	}
}

// writes tells that a value has just this text, and is read back from it.
func writes(t *testing.T, v api.Value, want string) {
	t.Helper()
	if got, ok := cell.Text(v); got != want || !ok {
		t.Errorf("P15.1: Text(%s): %s, %v, want %s", told(v), short(got), ok, short(want))
	}
	reads(t, want, v)
}

// writesNothing tells that a value has no text.
func writesNothing(t *testing.T, v api.Value) {
	t.Helper()
	if got, ok := cell.Text(v); got != "" || ok {
		t.Errorf("P15.1: Text(%s): %s, %v of what has none", told(v), short(got), ok)
	}
}

// texts are values, with their texts.
var texts = []struct {
	v    api.Value
	text string
}{
	{null, "null"}, {yes, "true"}, {no, "false"}, {empty, "[]"}, {bare, "{}"},
	// Ints.
	{whole(0), "0"}, {whole(1), "1"}, {whole(-1), "-1"}, {whole(5), "5"}, {whole(-5), "-5"}, {whole(10), "10"}, {whole(1234567890), "1234567890"}, {whole(math.MaxInt32), "2147483647"}, {whole(1 << 32), "4294967296"}, {whole(1<<53 + 1), "9007199254740993"}, {whole(math.MaxInt64), "9223372036854775807"}, {whole(math.MinInt64), "-9223372036854775808"},
	// Nums: each keeps its text, also where another one says the same.
	{num("1.5"), "1.5"}, {num("1.50"), "1.50"}, {num("-1.5"), "-1.5"}, {num("1.0"), "1.0"}, {num("-0"), "-0"}, {num("0.0"), "0.0"}, {num("-0.0"), "-0.0"}, {num("1e5"), "1e5"}, {num("1E5"), "1E5"}, {num("1e+5"), "1e+5"}, {num("1e-5"), "1e-5"}, {num("1e05"), "1e05"}, {num("1e0"), "1e0"}, {num("100e-2"), "100e-2"}, {num("1e100000"), "1e100000"}, {num("1E-100000"), "1E-100000"}, {num("9223372036854775808"), "9223372036854775808"}, {num("-9223372036854775809"), "-9223372036854775809"}, {num("123456789012345678901234567890"), "123456789012345678901234567890"},
	// Stamps.
	{stamp("2020-01-01"), "@2020-01-01"}, {stamp("12:30:00"), "@12:30:00"}, {stamp("2020-01-01 12:30:00.5Z"), "@2020-01-01 12:30:00.5Z"}, {stamp("inf"), "@inf"}, {stamp("x"), "@x"}, {stamp("@"), "@@"}, {stamp("@x"), "@@x"}, {stamp("'"), "@'"}, {stamp("'x"), "@'x"}, {stamp(" "), "@ "}, {stamp(" x "), "@ x "}, {stamp("~"), "@~"}, {stamp("!"), "@!"}, {stamp("5"), "@5"}, {stamp("null"), "@null"}, {stamp("[]"), "@[]"},
	// Strings that are left as they are.
	{said("x"), "x"}, {said("abc"), "abc"}, {said("a'"), "a'"}, {said("a@b"), "a@b"}, {said(" "), " "}, {said(" 'x"), " 'x"}, {said(" @x"), " @x"}, {said("\n"), "\n"}, {said("\x00"), "\x00"}, {said("\x7f"), "\x7f"}, {said(`"`), `"`}, {said(`"x"`), `"x"`}, {said(","), ","}, {said("\u00e9\n"), "\u00e9\n"}, {said("\u20ac"), "\u20ac"}, {said("\U0001F600"), "\U0001F600"}, {said("\ufffd"), "\ufffd"}, {said("\ufeffnull"), "\ufeffnull"}, {said("\u2019x"), "\u2019x"}, {said("2020-01-01"), "2020-01-01"},
	// Strings with a mark ahead: empty, or with one at their head.
	{said(""), "'"}, {said("'"), "''"}, {said("''"), "'''"}, {said("'x"), "''x"}, {said("'5"), "''5"}, {said("'null"), "''null"}, {said("@"), "'@"}, {said("@@"), "'@@"}, {said("@x"), "'@x"}, {said("@2020-01-01"), "'@2020-01-01"}, {said("@\n"), "'@\n"}, {said("@\u20ac"), "'@\u20ac"}, {said("'@"), "''@"}, {said("@'"), "'@'"},
	// Words.
	{said("null"), "'null"}, {said("true"), "'true"}, {said("false"), "'false"}, {said("[]"), "'[]"}, {said("{}"), "'{}"},
	// Numbers, as ints and as nums.
	{said("5"), "'5"}, {said("0"), "'0"}, {said("-5"), "'-5"}, {said("-0"), "'-0"}, {said("1.5"), "'1.5"}, {said("1e5"), "'1e5"}, {said("1E+05"), "'1E+05"}, {said("1e100000"), "'1e100000"}, {said("9223372036854775807"), "'9223372036854775807"}, {said("9223372036854775808"), "'9223372036854775808"},
	// Nearly words.
	{said("Null"), "Null"}, {said("NULL"), "NULL"}, {said("nul"), "nul"}, {said("nulll"), "nulll"}, {said("null "), "null "}, {said(" null"), " null"}, {said("null\n"), "null\n"}, {said("True"), "True"}, {said("TRUE"), "TRUE"}, {said("tru"), "tru"}, {said("truee"), "truee"}, {said("False"), "False"}, {said("fals"), "fals"}, {said("false\x00"), "false\x00"}, {said("["), "["}, {said("]"), "]"}, {said("[ ]"), "[ ]"}, {said("[] "), "[] "}, {said("[1]"), "[1]"}, {said("[[]]"), "[[]]"}, {said("[]]"), "[]]"}, {said("{"), "{"}, {said("}"), "}"}, {said("{ }"), "{ }"}, {said(" {}"), " {}"}, {said("{}{}"), "{}{}"}, {said(`{"a":1}`), `{"a":1}`}, {said("[}"), "[}"}, {said("{]"), "{]"}, {said("yes"), "yes"}, {said("nil"), "nil"},
	// Nearly numbers.
	{said(" 5"), " 5"}, {said("5 "), "5 "}, {said("5\n"), "5\n"}, {said("+5"), "+5"}, {said("05"), "05"}, {said("00"), "00"}, {said("-"), "-"}, {said("--5"), "--5"}, {said("-05"), "-05"}, {said("."), "."}, {said(".5"), ".5"}, {said("5."), "5."}, {said("1.5."), "1.5."}, {said("1.5.5"), "1.5.5"}, {said("1,5"), "1,5"}, {said("1_000"), "1_000"}, {said("e5"), "e5"}, {said("1e"), "1e"}, {said("1e+"), "1e+"}, {said("1e5.0"), "1e5.0"}, {said("1e100001"), "1e100001"}, {said("1e-100001"), "1e-100001"}, {said("0x5"), "0x5"}, {said("5x"), "5x"}, {said("inf"), "inf"}, {said("nan"), "nan"}, {said("NaN"), "NaN"}, {said("\u0665"), "\u0665"},
}

func TestTexts(t *testing.T) {
	for _, c := range texts {
		writes(t, c.v, c.text)
	}
}

// TestExamples: the chapter's own.
func TestExamples(t *testing.T) {
	if s, ok := cell.Text(said("5")); s != "'5" || !ok {
		t.Errorf("P15.1: Text of the string 5: %q, %v", s, ok)
	}
	if v, e := cell.Value("x"); v.Kind != api.Str || v.S != "x" || e != api.OK {
		t.Errorf("P15.2: Value(x): %s, %d", told(v), e)
	}
}

// TestNeedlessMark: a mark is taken off, also ahead of a string that is read as it stands, and just one.
func TestNeedlessMark(t *testing.T) {
	for _, c := range texts {
		if c.v.Kind == api.Str {
			reads(t, "'"+c.v.S, c.v)
		}
		if len(c.text) <= api.MaxStr {
			reads(t, "'"+c.text, said(c.text))
			reads(t, "''"+c.text, said("'"+c.text))
		}
	}
}

// TestNoTwo: no two of the values have one text, whatever their kinds are.
func TestNoTwo(t *testing.T) {
	for i, a := range texts {
		for k, b := range texts {
			first, _ := cell.Text(a.v)
			second, _ := cell.Text(b.v)
			if (first == second) != (i == k) {
				t.Errorf("P15.3: %s and %s have the texts %q and %q", told(a.v), told(b.v), first, second)
			}
		}
	}
}

func TestErrors(t *testing.T) {
	refuses(t, "", api.ENONE)
	// No stamp: none at all, or with a byte that no stamp has. What is no letter is no stamp either.
	for _, s := range []string{"@", "@\n", "@\t", "@x\n", "@\nx", "@\x00", "@\x1f", "@\x7f", "@\x80", "@\xff", "@x\xff", "@\u00e9", "@2020\u20ac", "@@\n"} {
		refuses(t, s, api.ESYNTAX)
	}
	// No letters, whatever stands around them; with a mark, too.
	for _, s := range []string{"\xff", "\x80", "a\xff", "\xffa", "a\xffb", "\xe2\x82", "\u20ac\x82", "\xc0\x80", "\xed\xa0\x80", "\xf4\x90\x80\x80", "5\xff", "\xff5", "null\xff", "\xffnull", "[]\xff", "{}\x80", "\xff@", "\xff'", " \xff"} {
		refuses(t, s, api.EUTF)
		refuses(t, "'"+s, api.EUTF)
		refuses(t, "''"+s, api.EUTF)
		refuses(t, "'@"+s, api.EUTF)
	}
}

// filled are values of each kind, with a field filled that the kind leaves empty.
func filled() []api.Value {
	all := []api.Value{}
	for _, v := range []api.Value{null, yes, no, whole(0), whole(5), num("1.5"), said(""), said("x"), stamp("x"), empty, bare} {
		n, s, l, m := v, v, v, v
		n.N, s.S, l.L, m.M = 1, "1.5", []api.Value{{}}, []api.Pair{{}}
		if v.Kind != api.Bool && v.Kind != api.Int {
			all = append(all, n)
		}
		if v.Kind != api.Num && v.Kind != api.Str && v.Kind != api.Stamp {
			all = append(all, s)
		}
		if v.Kind != api.List {
			all = append(all, l)
		}
		if v.Kind != api.Map {
			all = append(all, m)
		}
	}
	return all
}

// wrong are values that are not Good.
func wrong() []api.Value {
	return append(filled(), []api.Value{
		{Kind: 8}, {Kind: 9}, {Kind: -1}, {Kind: math.MaxInt64}, {Kind: math.MinInt64}, {Kind: 8, S: "x"},
		{Kind: api.Bool, N: 2}, {Kind: api.Bool, N: -1}, {Kind: api.Bool, N: 1 << 32},
		// A num of what is an int, and of what is no number.
		num("5"), num("0"), num("-5"), num("9223372036854775807"), num("-9223372036854775808"), num(""), num("x"), num("null"), num("05"), num("1."), num("1.5 "), num("'1.5"), num("1e100001"), num("\xff"),
		// A string that is no letters.
		said("\xff"), said("a\xff"), said("\xe2\x82"), said("\xed\xa0\x80"), said("'\xff"), said("@\xff"), said("5\xff"),
		// A stamp of nothing, and of bytes that no stamp has.
		stamp(""), stamp("\n"), stamp("x\n"), stamp("\x1f"), stamp("\x7f"), stamp("\xff"), stamp("\u00e9"),
	}...)
}

func TestWrong(t *testing.T) {
	for _, v := range wrong() {
		if value.Good(v) {
			t.Errorf("a value that is Good among those that are not: %s", told(v))
		}
		writesNothing(t, v)
		writesNothing(t, list(v))
		writesNothing(t, pairs(pair("a", v)))
	}
}

// TestParts: a list or a map with anything in it has no text.
func TestParts(t *testing.T) {
	for _, c := range texts {
		for _, v := range []api.Value{list(c.v), list(c.v, c.v), list(list(c.v)), pairs(pair("", c.v)), pairs(pair("a", c.v)), pairs(pair("a", c.v), pair("b", c.v)), list(pairs(pair("a", c.v))), pairs(pair("a", list(c.v)))} {
			if !value.Good(v) {
				t.Fatalf("a value that is not Good: %s", told(v))
			}
			writesNothing(t, v)
		}
	}
	writesNothing(t, list(list(), list()))
	writesNothing(t, pairs(pair("b", bare), pair("a", bare)))
	writesNothing(t, pairs(pair("a", bare), pair("a", bare)))
	writesNothing(t, pairs(pair("\xff", bare)))
}

// TestNilAndEmpty: nil and an empty list are one, also where there is spare room.
func TestNilAndEmpty(t *testing.T) {
	for _, c := range texts {
		for _, room := range []int{0, 3} {
			v := c.v
			v.L, v.M = make([]api.Value, room)[:0], make([]api.Pair, room)[:0]
			writes(t, v, c.text)
		}
	}
}

// TestFields: of what is read each field that its kind has no use for is zero.
func TestFields(t *testing.T) {
	for _, c := range texts {
		got, _ := cell.Value(c.text)
		if got.L != nil && cap(got.L) > 0 || got.M != nil && cap(got.M) > 0 {
			t.Errorf("R4: Value(%q) has a list with room: %s", c.text, told(got))
		}
		got.L, got.M = nil, nil
		if !reflect.DeepEqual(got, c.v) {
			t.Errorf("P15.2: Value(%q): %s, want %s", c.text, told(got), told(c.v))
		}
	}
}

// TestArguments: what is handed in is not changed, spare room included, and what is told of it is the same
// each time.
func TestArguments(t *testing.T) {
	for _, c := range texts {
		rest, more := []api.Value{whole(7), said("spare")}, []api.Pair{pair("spare", whole(7))}
		v := c.v
		v.L, v.M = rest[:0], more[:0]
		first, ok := cell.Text(v)
		again, okAgain := cell.Text(v)
		if first != again || ok != okAgain || first != c.text {
			t.Errorf("R5: Text(%s) told twice: %q, %q", told(v), first, again)
		}
		if !reflect.DeepEqual(rest, []api.Value{whole(7), said("spare")}) || !reflect.DeepEqual(more, []api.Pair{pair("spare", whole(7))}) {
			t.Errorf("R4: Text(%s) left its spare room as %v, %v", told(v), rest, more)
		}
	}
	l := []api.Value{whole(1), whole(2)}
	m := []api.Pair{pair("a", whole(1))}
	writesNothing(t, list(l[:1]...))
	writesNothing(t, pairs(m...))
	if !reflect.DeepEqual(l, []api.Value{whole(1), whole(2)}) || !reflect.DeepEqual(m, []api.Pair{pair("a", whole(1))}) {
		t.Errorf("R4: Text left a list as %v, pairs as %v", l, m)
	}
}

// TestNewMemory: what is answered is no piece of what was handed in.
func TestNewMemory(t *testing.T) {
	for _, c := range texts {
		v := c.v
		v.S = strings.Clone(v.S)
		if s, _ := cell.Text(v); within(v.S, s) {
			t.Errorf("R4: Text(%s) is a piece of its argument", told(v))
		}
		s := strings.Clone(c.text)
		if v, _ := cell.Value(s); within(s, v.S) {
			t.Errorf("R4: Value(%q) has a piece of its argument", s)
		}
	}
}

// within tells whether a piece lies in a text's memory.
func within(text, piece string) bool {
	if piece == "" {
		return false
	}
	begin := uintptr(unsafe.Pointer(unsafe.StringData(text)))
	at := uintptr(unsafe.Pointer(unsafe.StringData(piece)))
	return at >= begin && at < begin+uintptr(len(text))
}
