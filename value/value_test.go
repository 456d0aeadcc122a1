package value_test

import (
	"fmt"
	"math"
	"math/rand"
	"reflect"
	"slices"
	"sort"
	"strings"
	"testing"

	"dragoman/api"
	"dragoman/dec"
	"dragoman/value"
)

func num(s string) api.Value { return api.Value{Kind: api.Num, S: s} }

func str(s string) api.Value { return api.Value{Kind: api.Str, S: s} }

func stamp(s string) api.Value { return api.Value{Kind: api.Stamp, S: s} }

func number(n int64) api.Value { return api.Value{Kind: api.Int, N: n} }

func list(l ...api.Value) api.Value { return api.Value{Kind: api.List, L: l} }

func pairs(m ...api.Pair) api.Value { return api.Value{Kind: api.Map, M: m} }

func pair(key string, v api.Value) api.Pair { return api.Pair{Key: key, V: v} }

// xs is a text of so many bytes.
func xs(n int) string { return strings.Repeat("x", n) }

// nested is a tree that is so deep: of lists, of maps, or of both by turns.
func nested(depth int, how string) api.Value {
	v := number(1)
	for i := range depth - 1 {
		if how == "lists" || how == "both" && i%2 == 0 {
			v = list(v)
		} else {
			v = pairs(pair("k", v))
		}
	}
	return v
}

// wideMap is a map with so many keys, by rising keys.
func wideMap(n int) api.Value {
	v := pairs()
	for i := range n {
		v.M = append(v.M, pair(fmt.Sprintf("%06d", i), api.Value{}))
	}
	return v
}

// bush is a tree of so many nodes in which no list and no map is long.
func bush(nodes int) api.Value {
	switch {
	case nodes == 1:
		return api.Value{}
	case nodes == 2:
		return list(api.Value{})
	case nodes%2 == 0:
		return list(bush(nodes/2), bush(nodes-1-nodes/2))
	}
	return pairs(pair("a", bush(nodes/2)), pair("b", bush(nodes-1-nodes/2)))
}

// one is a value of each kind that may be and in which as much as may be is filled.
func one() []api.Value {
	return []api.Value{
		{},
		{Kind: api.Bool, N: 1},
		number(7),
		num("7.5"),
		str("s"),
		stamp("2026-11-17"),
		list(number(1)),
		pairs(pair("a", number(1))),
	}
}

// good are values that may be, with a name for each.
func good() map[string]api.Value {
	return map[string]api.Value{
		"null":                     {},
		"null with empty lists":    {L: []api.Value{}, M: []api.Pair{}},
		"bool 0":                   {Kind: api.Bool},
		"bool 1":                   {Kind: api.Bool, N: 1},
		"bool with empty lists":    {Kind: api.Bool, L: []api.Value{}, M: []api.Pair{}},
		"int 0":                    number(0),
		"int least":                number(math.MinInt64),
		"int greatest":             number(math.MaxInt64),
		"num with a dot":           num("1.5"),
		"num with a dot, whole":    num("5.0"),
		"num with e":               num("5e0"),
		"num -0":                   num("-0"),
		"num past the greatest":    num("9223372036854775808"),
		"num past the least":       num("-9223372036854775809"),
		"num of MaxDigits":         num(strings.Repeat("9", api.MaxDigits)),
		"num with empty lists":     {Kind: api.Num, S: "1.5", L: []api.Value{}, M: []api.Pair{}},
		"string empty":             str(""),
		"string of letters":        str("a\x00\x7f\u00e9\u20ac\U0001F600\n\""),
		"string of MaxStr":         str(xs(api.MaxStr)),
		"string of MaxStr, 2 each": str(strings.Repeat("\u00e9", api.MaxStr/2)),
		"string like a num":        str("5"),
		"stamp of 1":               stamp("x"),
		"stamp of 64":              stamp(xs(64)),
		"stamp of 33":              stamp("!"),
		"stamp of 126":             stamp("~"),
		"stamp of a blank":         stamp(" "),
		"stamp of 64 blanks":       stamp(strings.Repeat(" ", 64)),
		"stamp with both":          stamp(" !~ "),
		"list nil":                 {Kind: api.List},
		"list empty":               {Kind: api.List, L: []api.Value{}},
		"list, map empty":          {Kind: api.List, M: []api.Pair{}},
		"list of all":              list(one()...),
		"list of the same":         list(number(1), number(1)),
		"map nil":                  {Kind: api.Map},
		"map empty":                {Kind: api.Map, M: []api.Pair{}},
		"map, list empty":          {Kind: api.Map, L: []api.Value{}},
		"map of an empty key":      pairs(pair("", number(1))),
		"map by bytes":             pairs(pair("", str("")), pair("A", str("")), pair("B", str("")), pair("a", str("")), pair("aa", str("")), pair("b", str("")), pair("\u00e9", str("")), pair("\uffff", str("")), pair("\U00010000", str(""))),
		"map of the same":          pairs(pair("a", number(1)), pair("b", number(1))),
		"map, a key of MaxStr":     pairs(pair(xs(api.MaxStr), number(1))),
		"map, a key of 4 each":     pairs(pair(strings.Repeat("\U0001F600", api.MaxStr/4), number(1))),
		"list of MaxNodes":         list(make([]api.Value, api.MaxNodes-1)...),
		"map of MaxNodes":          wideMap(api.MaxNodes - 1),
		"bush of MaxNodes":         bush(api.MaxNodes),
		"lists MaxDepth deep":      nested(api.MaxDepth, "lists"),
		"maps MaxDepth deep":       nested(api.MaxDepth, "maps"),
		"both MaxDepth deep":       nested(api.MaxDepth, "both"),
		"empty list MaxDepth deep": list(nested(api.MaxDepth-1, "maps")),
		"twice MaxDepth deep":      list(nested(api.MaxDepth-1, "lists"), nested(api.MaxDepth-1, "maps")),
	}
}

// wrong are values that may not be, with a name for each.
func wrong() map[string]api.Value {
	all := map[string]api.Value{
		"bool 2":                   {Kind: api.Bool, N: 2},
		"bool -1":                  {Kind: api.Bool, N: -1},
		"bool greatest":            {Kind: api.Bool, N: math.MaxInt64},
		"bool 2^32":                {Kind: api.Bool, N: 1 << 32},
		"num of an int":            num("5"),
		"num 0":                    num("0"),
		"num of the least":         num("-9223372036854775808"),
		"num of the greatest":      num("9223372036854775807"),
		"num of no text":           num(""),
		"num of no number":         num("x"),
		"num with a nought ahead":  num("01.5"),
		"num past MaxDigits":       num(strings.Repeat("9", api.MaxDigits+1)),
		"num with a blank":         num("1.5 "),
		"string of no letters":     str("a\xff"),
		"string of half a letter":  str("\xe2\x82"),
		"string of a half":         str("\xed\xa0\x80"),
		"string past MaxStr":       str(xs(api.MaxStr + 1)),
		"string past MaxStr, 2":    str(strings.Repeat("\u00e9", api.MaxStr/2) + "x"),
		"stamp of 0":               stamp(""),
		"stamp of 65":              stamp(xs(65)),
		"stamp of 65 blanks":       stamp(strings.Repeat(" ", 65)),
		"map falling":              pairs(pair("b", number(1)), pair("a", number(1))),
		"map falling, empty":       pairs(pair("a", number(1)), pair("", number(1))),
		"map falling at the end":   pairs(pair("a", number(1)), pair("c", number(1)), pair("b", number(1))),
		"map falling in between":   pairs(pair("a", number(1)), pair("c", number(1)), pair("b", number(1)), pair("d", number(1))),
		"map twice":                pairs(pair("a", number(1)), pair("a", number(2))),
		"map twice, the same":      pairs(pair("a", number(1)), pair("a", number(1))),
		"map twice, empty":         pairs(pair("", number(1)), pair("", number(2))),
		"map twice, apart":         pairs(pair("a", number(1)), pair("b", number(2)), pair("a", number(2))),
		"map twice at the end":     pairs(pair("a", number(1)), pair("b", number(2)), pair("b", number(2))),
		"map by numbers":           pairs(pair("2", number(1)), pair("10", number(1))),
		"map, small letters ahead": pairs(pair("a", number(1)), pair("B", number(1))),
		"map, key of no letters":   pairs(pair("\xff", number(1))),
		"map, last of no letters":  pairs(pair("a", number(1)), pair("b\x80", number(1))),
		"map, key past MaxStr":     pairs(pair(xs(api.MaxStr+1), number(1))),
		"map, last past MaxStr":    pairs(pair("a", number(1)), pair(xs(api.MaxStr+1), number(1))),
		"list past MaxNodes":       list(make([]api.Value, api.MaxNodes)...),
		"map past MaxNodes":        wideMap(api.MaxNodes),
		"bush past MaxNodes":       bush(api.MaxNodes + 1),
		"bush far past MaxNodes":   bush(1 << 18),
		"lists past MaxDepth":      nested(api.MaxDepth+1, "lists"),
		"maps past MaxDepth":       nested(api.MaxDepth+1, "maps"),
		"both past MaxDepth":       nested(api.MaxDepth+1, "both"),
		"last past MaxDepth":       list(number(1), pairs(pair("a", number(1)), pair("b", nested(api.MaxDepth-1, "lists")))),
		"lists far past MaxDepth":  nested(1<<16, "lists"),
		"maps far past MaxDepth":   nested(1<<16, "maps"),
		"kind 8":                   {Kind: 8},
		"kind -1":                  {Kind: -1},
		"kind 264":                 {Kind: 264},
		"kind least":               {Kind: math.MinInt64},
		"kind 8 with a list":       {Kind: 8, L: []api.Value{{}}},
	}
	for _, v := range one() {
		n, s, l, m := v, v, v, v
		n.N, s.S, l.L, m.M = 1, "1.5", []api.Value{{}}, []api.Pair{{}}
		if v.Kind != api.Bool && v.Kind != api.Int {
			all[fmt.Sprint("N filled of kind ", v.Kind)] = n
		}
		if v.Kind != api.Num && v.Kind != api.Str && v.Kind != api.Stamp {
			all[fmt.Sprint("S filled of kind ", v.Kind)] = s
		}
		if v.Kind != api.List {
			all[fmt.Sprint("L filled of kind ", v.Kind)] = l
		}
		if v.Kind != api.Map {
			all[fmt.Sprint("M filled of kind ", v.Kind)] = m
		}
	}
	return all
}

func TestGood(t *testing.T) {
	for name, v := range good() {
		if !value.Good(v) {
			t.Errorf("P4.1: Good of %s: false", name)
		}
	}
	for name, v := range wrong() {
		if value.Good(v) {
			t.Errorf("P4.1: Good of %s: true", name)
		}
		// A part that may not be is found wherever it stands.
		for i, w := range []api.Value{list(v), list(v, number(1)), list(number(1), v), list(list(number(1)), list(list(v))), pairs(pair("a", v)), pairs(pair("a", number(1)), pair("b", v)), pairs(pair("a", pairs(pair("b", list(v)))), pair("b", number(1)))} {
			if value.Good(w) {
				t.Errorf("P4.1: Good of %s, held as in number %d: true", name, i)
			}
		}
	}
}

// TestGoodBytes goes through every byte in each place that has a text.
func TestGoodBytes(t *testing.T) {
	for b := range 256 {
		s := string([]byte{byte(b)})
		if got, want := value.Good(stamp(s)), b >= 32 && b <= 126; got != want {
			t.Errorf("P4.1: Good of a stamp of byte %d: %v", b, got)
		}
		if got, want := value.Good(stamp("a"+s+"z")), b >= 32 && b <= 126; got != want {
			t.Errorf("P4.1: Good of a stamp with byte %d: %v", b, got)
		}
		if got, want := value.Good(str("a"+s)), b < 128; got != want {
			t.Errorf("P4.1: Good of a string with byte %d: %v", b, got)
		}
		if got, want := value.Good(pairs(pair(s, number(1)))), b < 128; got != want {
			t.Errorf("P4.1: Good of a key of byte %d: %v", b, got)
		}
		if value.Good(num(s)) {
			t.Errorf("P4.1: Good of a num of byte %d: true", b)
		}
	}
}

func TestSizeDeep(t *testing.T) {
	for i, c := range []struct {
		v          api.Value
		size, deep int
	}{
		{api.Value{}, 1, 1},
		{value.Bool(true), 1, 1},
		{number(5), 1, 1},
		{num("1.5"), 1, 1},
		{str("abc"), 1, 1},
		{stamp("abc"), 1, 1},
		{list(), 1, 1},
		{pairs(), 1, 1},
		{list(list()), 2, 2},
		{pairs(pair("a", pairs())), 2, 2},
		{list(number(1), number(1), number(1)), 4, 2},
		{pairs(pair("a", number(1)), pair("b", number(1))), 3, 2},
		{list(list(list(number(1))), number(1)), 5, 4},
		{list(number(1), list(list(number(1)))), 5, 4},
		{pairs(pair("a", list(pairs(pair("x", number(1))))), pair("b", number(1))), 5, 4},
		{pairs(pair("a", number(1)), pair("b", list(pairs(pair("x", number(1)))))), 5, 4},
		{nested(api.MaxDepth, "both"), api.MaxDepth, api.MaxDepth},
		{nested(1<<16, "both"), 1 << 16, 1 << 16},
		{list(make([]api.Value, api.MaxNodes)...), api.MaxNodes + 1, 2},
		{wideMap(api.MaxNodes), api.MaxNodes + 1, 2},
		{bush(100000), 100000, 17},
		{api.Value{L: []api.Value{{}, {}}, M: []api.Pair{{V: list(number(1))}}}, 5, 3},
		{api.Value{Kind: 9, L: []api.Value{list(list())}, M: []api.Pair{{}}}, 4, 3},
	} {
		if got := value.Size(c.v); got != c.size {
			t.Errorf("P4.1: Size of number %d: %d, want %d", i, got, c.size)
		}
		if got := value.Deep(c.v); got != c.deep {
			t.Errorf("P4.1: Deep of number %d: %d, want %d", i, got, c.deep)
		}
	}
}

// different are values of which no two are alike, and no two mean the same.
func different() []api.Value {
	return []api.Value{
		{}, {N: 1}, {S: "x"}, list(), pairs(), {Kind: 9}, {Kind: -1},
		{L: []api.Value{{}}}, {M: []api.Pair{{}}},
		value.Bool(false), value.Bool(true),
		number(0), number(1), number(-1), number(math.MaxInt64), number(math.MinInt64), {Kind: api.Int, S: "1"},
		num("1.5"), num("-1.5"), num("1.0"), num("1.5e1"), num("-0"), num("9223372036854775808"), num("9223372036854775809"),
		{Kind: api.Num, S: "1.5", N: 1}, {Kind: api.Num, S: "1.5", L: []api.Value{{}}}, {Kind: api.Num, S: "1.5", M: []api.Pair{{}}},
		{Kind: 9, S: "1.5"},
		str(""), str("1.5"), str("1.50"), str("x"), str("X"), str("xx"), str("\xff"), {Kind: api.Str, S: "x", N: 1},
		stamp("1.5"), stamp("1.50"), stamp("x"),
		list(api.Value{}), list(api.Value{}, api.Value{}), list(list()), list(pairs()),
		list(number(1)), list(number(2)), list(number(1), number(2)), list(number(2), number(1)), list(number(1), number(2), number(3)), list(number(1), number(2), number(4)),
		list(num("1.5")), list(num("2.5")), list(str("1.5")), list(str("1.50")), list(list(num("1.5"))),
		{Kind: api.List, L: []api.Value{{}}, M: []api.Pair{{}}}, {Kind: api.List, S: "1.5"},
		pairs(pair("", number(1))), pairs(pair("a", number(1))), pairs(pair("a", number(2))), pairs(pair("b", number(1))), pairs(pair("a", num("1.5"))), pairs(pair("a", num("2.5"))),
		pairs(pair("1.0", number(1))), pairs(pair("1.00", number(1))),
		pairs(pair("a", number(1)), pair("b", number(2))), pairs(pair("a", number(2)), pair("b", number(1))), pairs(pair("b", number(2)), pair("a", number(1))), pairs(pair("a", number(1)), pair("c", number(2))),
		nested(500, "both"), nested(501, "both"), nested(502, "both"),
	}
}

func TestDifferent(t *testing.T) {
	all := different()
	for i, a := range all {
		for k, b := range all {
			if got := value.Same(a, b); got != (i == k) {
				t.Errorf("P4.1: Same of %d, %d: %v", i, k, got)
			}
			if got := value.Equal(a, b); got != (i == k) {
				t.Errorf("P4.1: Equal of %d, %d: %v", i, k, got)
			}
		}
		if b := value.Copy(a); !value.Same(a, b) || !value.Equal(a, b) {
			t.Errorf("P4.1: Same, Equal of %d and its copy", i)
		}
	}
}

// TestEqual has texts of which those of one row say one number.
func TestEqual(t *testing.T) {
	hold := []func(v api.Value) api.Value{
		func(v api.Value) api.Value { return v },
		func(v api.Value) api.Value { return list(v) },
		func(v api.Value) api.Value { return list(number(1), v, str("1.0")) },
		func(v api.Value) api.Value { return pairs(pair("a", v)) },
		func(v api.Value) api.Value { return pairs(pair("a", number(1)), pair("b", list(pairs(pair("c", v))))) },
	}
	rows := [][]string{
		{"1.0", "1.00", "1e0", "10e-1", "0.1e1", "1E+00"},
		{"-0", "0.0", "-0.0", "0e5", "0E-100000"},
		{"1e2", "100.0", "1.0e2"},
		{"-1e2", "-100.0"},
		{"1e100000", "10e99999"},
		{"99999999999999999999", "99999999999999999999.0"},
		{"x", "", "01", "1e100001"}, // no numbers, which Cmp tells to be 0
	}
	for i, row := range rows {
		for k, other := range rows {
			for _, x := range row {
				for _, y := range other {
					for h, in := range hold {
						if got := value.Equal(in(num(x)), in(num(y))); got != (i == k) || got != (dec.Cmp(x, y) == 0) {
							t.Errorf("P4.1: Equal of %q, %q, held as in number %d: %v", x, y, h, got)
						}
						if got := value.Same(in(num(x)), in(num(y))); got != (x == y) {
							t.Errorf("P4.1: Same of %q, %q, held as in number %d: %v", x, y, h, got)
						}
						for _, kind := range []api.Kind{api.Null, api.Bool, api.Int, api.Str, api.List, api.Map, api.Stamp, 8, -1} {
							a, b := api.Value{Kind: kind, S: x}, api.Value{Kind: kind, S: y}
							if got := value.Equal(in(a), in(b)); got != (x == y) {
								t.Errorf("P4.1: Equal of %q, %q of kind %d: %v", x, y, kind, got)
							}
						}
					}
				}
			}
		}
	}
	if value.Equal(number(1), num("1.0")) || value.Equal(num("1"), number(1)) || value.Equal(num("1.0"), str("1.0")) || value.Equal(stamp("1.0"), num("1.0")) {
		t.Errorf("P4.1: Equal of two kinds: true")
	}
}

// TestEmpty has nil for a list that is empty, and the other way round.
func TestEmpty(t *testing.T) {
	for kind := range api.Kind(9) {
		a := api.Value{Kind: kind, S: "1.5"}
		b := api.Value{Kind: kind, S: "1.5", L: []api.Value{}, M: []api.Pair{}}
		for i, c := range [][2]api.Value{{a, b}, {b, a}, {list(a), list(b)}, {list(b), list(a)}, {pairs(pair("a", a)), pairs(pair("a", b))}} {
			if !value.Same(c[0], c[1]) || !value.Equal(c[0], c[1]) {
				t.Errorf("P4.1: Same, Equal of nil and empty of kind %d, number %d: false", kind, i)
			}
		}
	}
}

func TestPlainMakers(t *testing.T) {
	if got := value.Null(); !reflect.DeepEqual(got, api.Value{}) {
		t.Errorf("P4.1: Null: %v", got)
	}
	if got := value.Bool(false); !reflect.DeepEqual(got, api.Value{Kind: api.Bool}) {
		t.Errorf("P4.1: Bool(false): %v", got)
	}
	if got := value.Bool(true); !reflect.DeepEqual(got, api.Value{Kind: api.Bool, N: 1}) {
		t.Errorf("P4.1: Bool(true): %v", got)
	}
	for _, n := range []int64{0, 1, -1, 5, -500, math.MaxInt64, math.MinInt64} {
		if got := value.Int(n); !reflect.DeepEqual(got, api.Value{Kind: api.Int, N: n}) || !value.Good(got) {
			t.Errorf("P4.1: Int(%d): %v", n, got)
		}
	}
}

// told holds what a maker answered against what it should.
func told(t *testing.T, call string, v api.Value, e api.Errno, want api.Value, wantErr api.Errno) {
	t.Helper()
	if !reflect.DeepEqual(v, want) || e != wantErr {
		t.Errorf("P4.1: %.60s: %.200s, %d, want %.200s, %d", call, fmt.Sprint(v), e, fmt.Sprint(want), wantErr)
	}
	if e == api.OK && !value.Good(v) {
		t.Errorf("P4.1: %.60s: not Good", call)
	}
}

func TestNum(t *testing.T) {
	for s, n := range map[string]int64{"5": 5, "0": 0, "-7": -7, "9223372036854775807": math.MaxInt64, "-9223372036854775808": math.MinInt64} {
		v, e := value.Num(s)
		told(t, "Num("+s+")", v, e, api.Value{Kind: api.Int, N: n}, api.OK)
	}
	for _, s := range []string{"-0", "5.0", "5e0", "0.0", "1.50", "1E5", "9223372036854775808", "-9223372036854775809", "1e100000", strings.Repeat("9", api.MaxDigits)} {
		v, e := value.Num(s)
		told(t, "Num("+s+")", v, e, num(s), api.OK)
	}
	for _, s := range []string{"", "x", "-", "+5", "05", "5.", ".5", "1e", "5 ", " 5", "1e100001", "0x5", "\xff", strings.Repeat("9", api.MaxDigits+1), xs(1 << 16)} {
		v, e := value.Num(s)
		told(t, "Num("+s+")", v, e, api.Value{}, api.EARG)
	}
}

func TestStr(t *testing.T) {
	for _, s := range []string{"", "x", "5", "null", "\x00", "\x7f", "\u20ac", "a\nb", "\U0010FFFF", xs(api.MaxStr), strings.Repeat("\u00e9", api.MaxStr/2), strings.Repeat("\U0001F600", api.MaxStr/4)} {
		v, e := value.Str(s)
		told(t, "Str("+s+")", v, e, str(s), api.OK)
	}
	for _, s := range []string{xs(api.MaxStr + 1), strings.Repeat("\u00e9", api.MaxStr/2) + "x", xs(api.MaxStr-1) + "\u00e9", xs(1 << 20)} {
		v, e := value.Str(s)
		told(t, "Str("+s+")", v, e, api.Value{}, api.ELIMIT)
	}
	for _, s := range []string{"\xff", "a\x80", "\xc0\x80", "\xe2\x82", "\xed\xa0\x80", "\xf4\x90\x80\x80", strings.Repeat("\xff", api.MaxStr), xs(api.MaxStr) + "\xff", "\xff" + xs(api.MaxStr), xs(1<<20) + "\xff"} {
		v, e := value.Str(s)
		told(t, "Str("+s+")", v, e, api.Value{}, api.EUTF)
	}
}

func TestStamp(t *testing.T) {
	for _, s := range []string{"x", " ", "!", "~", "2026-11-17", "2026-11-17T10:00:00Z", "2026-11-17 10:00:00", xs(64), strings.Repeat(" ", 64)} {
		v, e := value.Stamp(s)
		told(t, "Stamp("+s+")", v, e, stamp(s), api.OK)
	}
	for _, s := range []string{"", "\x1f", "\x7f", "\x00", "a\t", "\na", "\u00e9", "\xff", xs(65), xs(63) + "\u00e9", xs(64) + "\n", xs(1 << 16)} {
		v, e := value.Stamp(s)
		told(t, "Stamp("+s+")", v, e, api.Value{}, api.EARG)
	}
	for b := range 256 {
		s := "a" + string([]byte{byte(b)}) + "z"
		want := api.EARG
		if b >= 32 && b <= 126 {
			want = api.OK
		}
		if _, e := value.Stamp(s); e != want {
			t.Errorf("P4.1: Stamp with byte %d: %d", b, e)
		}
	}
}

func TestList(t *testing.T) {
	for _, l := range [][]api.Value{nil, {}} {
		if v := value.List(l...); v.Kind != api.List || len(v.L) != 0 || !value.Same(v, list()) {
			t.Errorf("P4.1: List of none: %v", v)
		}
	}
	if v := value.List(one()...); !value.Same(v, list(one()...)) || !value.Good(v) {
		t.Errorf("P4.1: List of all kinds: %v", v)
	}
	if v := value.List(number(2), number(1), number(2)); !value.Same(v, list(number(2), number(1), number(2))) {
		t.Errorf("P4.1: List, the order: %v", v)
	}
	for name, w := range wrong() {
		if v := value.List(w, w); !value.Same(v, list(w, w)) {
			t.Errorf("P4.1: List of %s is another", name)
		}
	}
}

func TestMap(t *testing.T) {
	v, e := value.Map(pair("b", number(1)), pair("a", number(2)))
	told(t, "Map(b, a)", v, e, pairs(pair("a", number(2)), pair("b", number(1))), api.OK)
	v, e = value.Map(pair("a", number(2)))
	told(t, "Map(a)", v, e, pairs(pair("a", number(2))), api.OK)
	v, e = value.Map(pair(xs(api.MaxStr), number(2)), pair("", api.Value{}))
	told(t, "Map(key of MaxStr)", v, e, pairs(pair("", api.Value{}), pair(xs(api.MaxStr), number(2))), api.OK)
	for _, m := range [][]api.Pair{nil, {}} {
		if v, e := value.Map(m...); v.Kind != api.Map || len(v.M) != 0 || e != api.OK || !value.Same(v, pairs()) {
			t.Errorf("P4.1: Map of none: %v, %d", v, e)
		}
	}
	for name, w := range wrong() {
		if v, e := value.Map(pair("z", w), pair("a", w)); e != api.OK || !value.Same(v, pairs(pair("a", w), pair("z", w))) {
			t.Errorf("P4.1: Map of %s is another", name)
		}
	}
}

// TestMapOrder turns keys round in many ways.
func TestMapOrder(t *testing.T) {
	keys := []string{"", "\x00", "\x00\x00", " ", "0", "1", "10", "2", "A", "B", "a", "a\x00", "aa", "ab", "b", "\u007f", "\u0080", "\u00e9", "\u20ac", "\uffff", "\U00010000", "\U0010FFFF", xs(api.MaxStr - 1), xs(api.MaxStr)}
	sort.Strings(keys)
	random := rand.New(rand.NewSource(4))
	for range 500 {
		m, back := []api.Pair{}, map[string]int64{}
		for _, i := range random.Perm(len(keys))[:random.Intn(len(keys)+1)] {
			m = append(m, pair(keys[i], number(int64(i))))
			back[keys[i]] = int64(i)
		}
		v, e := value.Map(m...)
		if e != api.OK || len(v.M) != len(m) || !value.Good(v) {
			t.Fatalf("P4.1: Map of %d pairs: %d pairs, %d", len(m), len(v.M), e)
		}
		for i, p := range v.M {
			if n, ok := back[p.Key]; !ok || !value.Same(p.V, number(n)) || i > 0 && v.M[i-1].Key >= p.Key {
				t.Fatalf("P4.1: Map, pair %d", i)
			}
		}
		for key, n := range back {
			if x, ok := value.Get(v, key); !ok || !value.Same(x, number(n)) {
				t.Fatalf("P4.1: Get(%.20q): %v, %v", key, x, ok)
			}
		}
	}
}

func TestMapErrors(t *testing.T) {
	long, bytes := xs(api.MaxStr+1), "\xff"
	for i, c := range []struct {
		keys []string
		want api.Errno
	}{
		{[]string{"a", "a"}, api.ETWICE},
		{[]string{"", ""}, api.ETWICE},
		{[]string{"a", "b", "a"}, api.ETWICE},
		{[]string{"b", "a", "c", "b", "d"}, api.ETWICE},
		{[]string{"a", "a", "a"}, api.ETWICE},
		{[]string{"a", "b", "c", "c"}, api.ETWICE},
		{[]string{"a\xff"}, api.EUTF},
		{[]string{"b", "a", "\xe2\x82"}, api.EUTF},
		{[]string{"\xed\xa0\x80", "a"}, api.EUTF},
		{[]string{long}, api.ELIMIT},
		{[]string{"z", long, "a"}, api.ELIMIT},
		{[]string{strings.Repeat("\u00e9", api.MaxStr/2) + "x"}, api.ELIMIT},
		{[]string{xs(1 << 20), "a"}, api.ELIMIT},
		// The sentence names ETWICE first, then EUTF, then ELIMIT, whichever key stands first.
		{[]string{bytes, "a", "a"}, api.ETWICE},
		{[]string{"a", "a", bytes}, api.ETWICE},
		{[]string{bytes, bytes}, api.ETWICE},
		{[]string{long, long}, api.ETWICE},
		{[]string{long, "y", "y"}, api.ETWICE},
		{[]string{"z", "z", long}, api.ETWICE},
		{[]string{long, bytes, "a", "a"}, api.ETWICE},
		{[]string{long, bytes}, api.EUTF},
		{[]string{bytes, long}, api.EUTF},
		{[]string{bytes + long, "a"}, api.EUTF},
		{[]string{long + bytes, "a"}, api.EUTF},
		{[]string{"\x80", "\xff" + long, long, "b"}, api.EUTF},
		{[]string{"\x80", strings.Repeat("\U0001F600", api.MaxStr)}, api.EUTF},
		{[]string{strings.Repeat("\U0001F600", api.MaxStr), "a" + bytes}, api.EUTF},
	} {
		m := []api.Pair{}
		for k, key := range c.keys {
			m = append(m, pair(key, number(int64(k))))
		}
		v, e := value.Map(m...)
		told(t, fmt.Sprint("Map of number ", i), v, e, api.Value{}, c.want)
	}
}

func TestGet(t *testing.T) {
	m := pairs(pair("", number(1)), pair("a", list(number(2))), pair("ab", pairs(pair("x", number(3)))), pair("z", api.Value{}))
	for _, p := range m.M {
		if v, ok := value.Get(m, p.Key); !ok || !value.Same(v, p.V) {
			t.Errorf("P4.1: Get(%q): %v, %v", p.Key, v, ok)
		}
	}
	for _, key := range []string{"b", "A", "aa", "abc", "x", "zz", " ", "\x00", "\xff", xs(api.MaxStr + 1)} {
		if v, ok := value.Get(m, key); ok || !reflect.DeepEqual(v, api.Value{}) {
			t.Errorf("P4.1: Get(%.20q): %v, %v", key, v, ok)
		}
	}
	for _, none := range []api.Value{pairs(), {Kind: api.Map, M: []api.Pair{}}} {
		if v, ok := value.Get(none, ""); ok || !reflect.DeepEqual(v, api.Value{}) {
			t.Errorf("P4.1: Get of an empty map: %v, %v", v, ok)
		}
	}
	for _, kind := range []api.Kind{api.Null, api.Bool, api.Int, api.Num, api.Str, api.List, api.Stamp, 8, -1} {
		v := m
		v.Kind, v.S, v.L = kind, "a", []api.Value{m}
		if v, ok := value.Get(v, "a"); ok || !reflect.DeepEqual(v, api.Value{}) {
			t.Errorf("P4.1: Get of kind %d: %v, %v", kind, v, ok)
		}
	}
	falling := pairs(pair("c", number(1)), pair("b", number(2)), pair("a", number(3)))
	for _, p := range falling.M {
		if v, ok := value.Get(falling, p.Key); !ok || !value.Same(v, p.V) {
			t.Errorf("P4.1: Get(%q) of a map that is not rising: %v, %v", p.Key, v, ok)
		}
	}
}

func TestCopy(t *testing.T) {
	for _, all := range []map[string]api.Value{good(), wrong()} {
		for name, v := range all {
			if w := value.Copy(v); !value.Same(v, w) || value.Size(v) != value.Size(w) {
				t.Errorf("P4.1: Copy of %s is another", name)
			}
		}
	}
}

// roomy is a tree in which every list and every map, empty ones too, has spare room.
func roomy() api.Value {
	values := func(l ...api.Value) []api.Value {
		room := append(slices.Clone(l), number(77), str("room"))
		return room[:len(l)]
	}
	keys := func(m ...api.Pair) []api.Pair {
		room := append(slices.Clone(m), pair("room", number(77)), pair("a", list(str("room"))))
		return room[:len(m)]
	}
	inner := api.Value{Kind: api.Map, M: keys(pair("x", list(values(number(1), num("1.5"))...)), pair("y", list(values()...))), L: values()}
	return list(values(inner, list(values(str("s"), inner)...), pairs(keys(pair("m", inner), pair("n", pairs(keys()...)))...))...)
}

// whole tells all fields of a tree, spare room too.
func whole(v api.Value) string {
	out := fmt.Sprint(v.Kind, v.N, len(v.L), cap(v.L), len(v.M), cap(v.M)) + fmt.Sprintf("%q[", v.S)
	for _, x := range v.L[:cap(v.L)] {
		out += whole(x)
	}
	for _, p := range v.M[:cap(v.M)] {
		out += fmt.Sprintf("%q:", p.Key) + whole(p.V)
	}
	return out + "]"
}

// spoil writes over all lists of a tree, spare room too.
func spoil(v api.Value) {
	for i, x := range v.L[:cap(v.L)] {
		spoil(x)
		v.L[:cap(v.L)][i] = str("spoilt")
	}
	for i, p := range v.M[:cap(v.M)] {
		spoil(p.V)
		v.M[:cap(v.M)][i] = pair("spoilt", str("spoilt"))
	}
}

// TestNotChanged: R4, what is handed in is not changed.
func TestNotChanged(t *testing.T) {
	v, other := roomy(), roomy()
	before := whole(v)
	calls := map[string]func(){
		"Good":  func() { value.Good(v) },
		"Same":  func() { value.Same(v, other) },
		"Equal": func() { value.Equal(v, other) },
		"Size":  func() { value.Size(v) },
		"Deep":  func() { value.Deep(v) },
		"List":  func() { value.List(v.L...) },
		"Map":   func() { value.Map(v.L[0].M...) },
		"Get":   func() { value.Get(v.L[0], "x") },
		"Copy":  func() { value.Copy(v) },
	}
	for name, call := range calls {
		call()
		if whole(v) != before {
			t.Fatalf("R4: %s changes what it is handed", name)
		}
	}
	// Pairs that are not in order, with spare room behind them.
	for _, keys := range [][]string{{"c", "b", "a"}, {"b", "a", "b"}, {"b", "\xff", "a"}, {"b", xs(api.MaxStr + 1), "a"}} {
		m := api.Value{M: make([]api.Pair, 0, 8)}
		for _, key := range keys {
			m.M = append(m.M, pair(key, roomy()))
		}
		before := whole(m)
		value.Map(m.M...)
		if whole(m) != before {
			t.Fatalf("R4: Map of %.20q changes what it is handed", keys)
		}
	}
}

// TestNewMemory: R4, what is answered shares no list with what was handed in, nor do two lists of it.
func TestNewMemory(t *testing.T) {
	falling := func(v api.Value) []api.Pair { return []api.Pair{pair("b", v), pair("a", v), pair("c", list(v))} }
	calls := map[string]func(v api.Value) api.Value{
		"List": func(v api.Value) api.Value { return value.List(v.L...) },
		"List of it": func(v api.Value) api.Value {
			return value.List(v, v)
		},
		"Map": func(v api.Value) api.Value {
			m, _ := value.Map(v.L[0].M...)
			return m
		},
		"Map of it": func(v api.Value) api.Value {
			m, _ := value.Map(falling(v)...)
			return m
		},
		"Get": func(v api.Value) api.Value {
			x, _ := value.Get(v.L[0], "x")
			return x
		},
		"Get of it": func(v api.Value) api.Value {
			x, _ := value.Get(pairs(falling(v)...), "c")
			return x
		},
		"Copy": value.Copy,
		"Copy, empty lists": func(v api.Value) api.Value {
			return value.Copy(api.Value{Kind: api.List, L: v.L[:0], M: v.L[0].M[:0]})
		},
		"Copy, the wrong fields": func(v api.Value) api.Value {
			return value.Copy(api.Value{Kind: api.Int, L: v.L, M: v.L[0].M})
		},
	}
	for name, call := range calls {
		v := roomy()
		before := whole(v)
		got := call(v)
		as := whole(got)
		spoil(v)
		if whole(got) != as {
			t.Errorf("R4: %s keeps a list that it is handed", name)
		}
		v = roomy()
		spoil(call(v))
		if whole(v) != before {
			t.Errorf("R4: %s answers a list that it is handed", name)
		}
		if apart(call(roomy()), map[any]int{}) {
			continue
		}
		t.Errorf("R4: %s answers two lists that share memory", name)
	}
}

// apart tells whether no two lists of a tree share a place, spare room included.
func apart(v api.Value, seen map[any]int) bool {
	for i, x := range v.L[:cap(v.L)] {
		at := &v.L[:cap(v.L)][i]
		seen[at]++
		if seen[at] > 1 || !apart(x, seen) {
			return false
		}
	}
	for i, p := range v.M[:cap(v.M)] {
		at := &v.M[:cap(v.M)][i]
		seen[at]++
		if seen[at] > 1 || !apart(p.V, seen) {
			return false
		}
	}
	return true
}

// grown is a value that may be, of at most so many nodes, with all kinds in it.
func grown(random *rand.Rand, nodes, depth int) api.Value {
	kind := random.Intn(8)
	if nodes < 2 || depth < 2 {
		kind = random.Intn(6)
	}
	switch kind {
	case 0:
		return value.Null()
	case 1:
		return value.Bool(random.Intn(2) == 0)
	case 2:
		return value.Int(random.Int63() - random.Int63())
	case 3:
		return num(fmt.Sprintf("%d.%d", random.Intn(100)-50, random.Intn(100)))
	case 4:
		return str(strings.Repeat("\u20ac", random.Intn(5)))
	case 5:
		return stamp(xs(1 + random.Intn(5)))
	}
	v := api.Value{Kind: api.List}
	for left, i := nodes-1, 0; left > 0; i++ {
		x := grown(random, left, depth-1)
		left -= value.Size(x)
		if kind == 6 {
			v.L = append(v.L, x)
			continue
		}
		v.Kind = api.Map
		v.M = append(v.M, pair(fmt.Sprintf("k%04d", i), x))
	}
	return v
}

// parts are all values of a tree.
func parts(v *api.Value) []*api.Value {
	out := []*api.Value{v}
	for i := range v.L {
		out = append(out, parts(&v.L[i])...)
	}
	for i := range v.M {
		out = append(out, parts(&v.M[i].V)...)
	}
	return out
}

// TestGrown makes many trees, alters one part of each, and asks whether every call tells.
func TestGrown(t *testing.T) {
	random := rand.New(rand.NewSource(44))
	bad := slices.Collect(func(yield func(api.Value) bool) {
		all := wrong()
		names := []string{}
		for name, v := range all {
			if value.Size(v) < 10 {
				names = append(names, name)
			}
		}
		sort.Strings(names)
		for _, name := range names {
			if !yield(all[name]) {
				return
			}
		}
	})
	for range 2000 {
		v := grown(random, 1+random.Intn(200), 1+random.Intn(9))
		if !value.Good(v) {
			t.Fatalf("P4.1: Good of %v: false", v)
		}
		if n := value.Size(v); n != len(parts(&v)) {
			t.Fatalf("P4.1: Size of %v: %d, want %d", v, n, len(parts(&v)))
		}
		w := value.Copy(v)
		if !value.Same(v, w) || !value.Equal(v, w) {
			t.Fatalf("P4.1: Same, Equal of %v and its copy", v)
		}
		all := parts(&w)
		*all[random.Intn(len(all))] = bad[random.Intn(len(bad))]
		if value.Good(w) || value.Same(v, w) || value.Equal(v, w) || value.Same(w, v) || value.Equal(w, v) {
			t.Fatalf("P4.1: Good, Same, Equal of %v with a part that may not be", w)
		}
	}
}
