package dec_test

import (
	"math"
	"math/big"
	"regexp"
	"strings"
	"testing"

	"dragoman/api"
	"dragoman/dec"
)

// nines is a text of so many digits.
func nines(n int) string { return strings.Repeat("9", n) }

// noughts is a text of so many noughts.
func noughts(n int) string { return strings.Repeat("0", n) }

// texts are numbers' texts, with what Canon and Whole tell of each.
var texts = []struct {
	s, canon string
	whole    bool
}{
	{"1200.50", "1.2005e3", false}, // the chapter's own
	{"-0.0", "0", true},            // the chapter's own

	{"0", "0", true},
	{"-0", "0", true},
	{"0.0", "0", true},
	{"-0.0e5", "0", true},
	{"0e-5", "0", true},
	{"0.000E100000", "0", true},
	{"-0e-100000", "0", true},

	{"1", "1", true},
	{"-7", "-7", true},
	{"10", "1e1", true},
	{"-10", "-1e1", true},
	{"12", "1.2e1", true},
	{"102", "1.02e2", true},
	{"1020", "1.02e3", true},
	{"1000000", "1e6", true},
	{"1234567890", "1.23456789e9", true},
	{"123456789012345678901234567890", "1.2345678901234567890123456789e29", true},

	{"1.0", "1", true},
	{"1.5", "1.5", false},
	{"-1.50", "-1.5", false},
	{"10.0", "1e1", true},
	{"10.01", "1.001e1", false},
	{"0.1", "1e-1", false},
	{"-0.1", "-1e-1", false},
	{"0.0120", "1.2e-2", false},
	{"0.000001", "1e-6", false},
	{"100.00100", "1.00001e2", false},

	{"1e5", "1e5", true},
	{"1E5", "1e5", true},
	{"1e+5", "1e5", true},
	{"1E+5", "1e5", true},
	{"1e-5", "1e-5", false},
	{"1E-5", "1e-5", false},
	{"1e0", "1", true},
	{"1e+0", "1", true},
	{"1e-0", "1", true},
	{"-5e000", "-5", true},
	{"1.5e007", "1.5e7", true},
	{"1.5e-007", "1.5e-7", false},
	{"1.5e1", "1.5e1", true},
	{"1.25e1", "1.25e1", false},
	{"15e-1", "1.5", false},
	{"150e-1", "1.5e1", true},
	{"150e-2", "1.5", false},
	{"100e-2", "1", true},
	{"100e-3", "1e-1", false},
	{"0.01e2", "1", true},
	{"0.01e1", "1e-1", false},
	{"0.01e3", "1e1", true},
	{"-12.5e-3", "-1.25e-2", false},
	{"12.50e1", "1.25e2", true},
	{"12.50e0", "1.25e1", false},

	{"1e100000", "1e100000", true},
	{"1e+100000", "1e100000", true},
	{"1e-100000", "1e-100000", false},
	{"1e99999", "1e99999", true},
	{"1e00000000000000000000000000100000", "1e100000", true},
	{"1e-0000000100000", "1e-100000", false},
	{"0.1e100000", "1e99999", true},
	{"10e-100000", "1e-99999", false},
	{"1e" + noughts(api.MaxDigits-2), "1", true},
	{"1e" + noughts(api.MaxDigits-3) + "4", "1e4", true},

	{"10e100000", "1e100001", true},
	{"-1234e100000", "-1.234e100003", true},
	{"0.1e-100000", "1e-100001", false},
	{"-0.0012e-100000", "-1.2e-100003", false},
	{"1" + noughts(391) + "e+100000", "1e100391", true},
	{"0." + noughts(389) + "1e-100000", "1e-100390", false},

	{nines(api.MaxDigits), "9." + nines(api.MaxDigits-1) + "e399", true},
	{"-" + nines(api.MaxDigits-1), "-9." + nines(api.MaxDigits-2) + "e398", true},
	{"9." + nines(api.MaxDigits-2), "9." + nines(api.MaxDigits-2), false},
	{"0." + noughts(api.MaxDigits-2), "0", true},
	{"5." + noughts(api.MaxDigits-2), "5", true},
	{"1" + noughts(api.MaxDigits-1), "1e399", true},
}

// wrong are texts that are no number's.
var wrong = []string{
	"", " ", "-", "+", ".", "e", "E", "-.", "-e", ".e", "e5", "-e5", "E-5", "\x00",
	"+5", "+0", "--1", "-+1", "+-1", "- 1",
	"00", "01", "-00", "-01", "007", "00.5", "01e5", "-012.5",
	".5", "-.5", ".", "5.", "-5.", "0.", "1.e5", ".e5", "1..5", "1.2.3", "1.-5", "1.+5", "1,5",
	"1e", "1E", "1e+", "1e-", "-1.5e", "1e+-5", "1e--5", "1e++5", "1e-+5", "1e 5", "1ee5", "1e5e5", "1e5.", "1e5.0", "1e.5", "1e5+", "1e5-",
	" 1", "1 ", "1\n", "1x", "1_0", "1_000", "1-", "1+1", "1-1", "0x1", "0x", "0b1", "1f", "1e5x", "1.5x", "1\x00", "1e5\x00", "1\xff", "\xff1",
	"inf", "Inf", "-inf", "nan", "NaN", "infinity", "1p5", "1/2", "1:", "/",
	"\xEF\xBC\x91", "1\xD9\xA1", "\xC2\xB2", "\xE2\x88\x921", "1\xD0\xB55",
	"1e100001", "1e+100001", "1e-100001", "0e100001", "-0.0e-100001", "1e1000000", "1e0000000100001", "1e-0000000100001",
	"1e2147483648", "1e4294967296", "1e9223372036854775808", "1e18446744073709551616", "1e-18446744073709551616", "1e99999999999999999999",
	"1e1" + noughts(api.MaxDigits-3), "1e" + nines(api.MaxDigits-2),
	nines(api.MaxDigits + 1), "-" + nines(api.MaxDigits), "9." + nines(api.MaxDigits-1), "1e" + noughts(api.MaxDigits-1),
	"0." + noughts(api.MaxDigits-1), noughts(api.MaxDigits), nines(1 << 16), "1e" + noughts(1<<16),
}

// short tells a text's head, so that long ones can be told.
func short(s string) string { return s[:min(len(s), 40)] }

func TestGood(t *testing.T) {
	for _, x := range texts {
		if !dec.Good(x.s) {
			t.Errorf("P3.1: Good(%q): false", short(x.s))
		}
	}
	for _, s := range wrong {
		if dec.Good(s) {
			t.Errorf("P3.1: Good(%q): true", short(s))
		}
	}
}

func TestCanon(t *testing.T) {
	for _, x := range texts {
		if c, ok := dec.Canon(x.s); c != x.canon || !ok {
			t.Errorf("P3.1: Canon(%q): %q, %v", short(x.s), short(c), ok)
		}
	}
	for _, s := range wrong {
		if c, ok := dec.Canon(s); c != "" || ok {
			t.Errorf("P3.1: Canon(%q): %q, %v", short(s), short(c), ok)
		}
	}
}

func TestWhole(t *testing.T) {
	for _, x := range texts {
		if got := dec.Whole(x.s); got != x.whole {
			t.Errorf("P3.1: Whole(%q): %v", short(x.s), got)
		}
	}
	for _, s := range wrong {
		if dec.Whole(s) {
			t.Errorf("P3.1: Whole(%q): true", short(s))
		}
	}
}

// ints are numbers of 64 bits and their texts.
var ints = []struct {
	n int64
	s string
}{
	{0, "0"}, {1, "1"}, {-1, "-1"}, {9, "9"}, {10, "10"}, {-10, "-10"}, {100, "100"}, {-907, "-907"},
	{math.MaxInt32, "2147483647"}, {math.MaxInt32 + 1, "2147483648"},
	{math.MinInt32, "-2147483648"}, {math.MinInt32 - 1, "-2147483649"},
	{math.MaxInt64, "9223372036854775807"}, {math.MaxInt64 - 1, "9223372036854775806"},
	{math.MinInt64, "-9223372036854775808"}, {math.MinInt64 + 1, "-9223372036854775807"},
	{1000000000000000000, "1000000000000000000"},
}

func TestInt(t *testing.T) {
	for _, x := range ints {
		if n, ok := dec.Int(x.s); n != x.n || !ok {
			t.Errorf("P3.1: Int(%s): %d, %v", x.s, n, ok)
		}
	}
	none := []string{
		"-0", "0.0", "1.0", "-1.0", "1.5", "1e0", "1E0", "0e0", "1e5", "1E5", "10e-1", "1.0e0",
		"9223372036854775808", "-9223372036854775809", "9223372036854775810", "10000000000000000000",
		"18446744073709551615", "18446744073709551616", "18446744073709551617", "-18446744073709551616",
		nines(300), "-" + nines(300), nines(api.MaxDigits),
	}
	for _, s := range append(none, wrong...) {
		if n, ok := dec.Int(s); n != 0 || ok {
			t.Errorf("P3.1: Int(%q): %d, %v", short(s), n, ok)
		}
	}
}

func TestText(t *testing.T) {
	for _, x := range ints {
		if got := dec.Text(x.n); got != x.s {
			t.Errorf("P3.1: Text(%d): %s", x.n, got)
		}
	}
	for n := int64(1); n > 0; n *= 3 {
		for _, m := range []int64{n, -n} {
			if got, ok := dec.Int(dec.Text(m)); got != m || !ok {
				t.Errorf("P3.1: Int(Text(%d)): %d, %v", m, got, ok)
			}
		}
	}
}

// rising are numbers by their size; those of one row are the same.
var rising = [][]string{
	{"", "x", "-", "+1", "01", "1e100001", "-1e100001", nines(api.MaxDigits + 1)},
	{"-10e100000", "-100e99999"},
	{"-1e100000"},
	{"-9e99999"},
	{"-1e99999"},
	{"-1e30", "-1000000000000000000000000000000"},
	{"-9223372036854775809"},
	{"-9223372036854775808", "-9.223372036854775808e18"},
	{"-100", "-1e2", "-100.0", "-0.1e3"},
	{"-99"},
	{"-12.51"},
	{"-12.5", "-12.50", "-125e-1"},
	{"-12", "-1.2e1"},
	{"-2"},
	{"-1.00000000000000000000000000000000000000000000000001"},
	{"-1", "-1.0", "-10e-1"},
	{"-0.1", "-1e-1"},
	{"-1e-100000", "-0.1e-99999"},
	{"-0.1e-100000", "-0.01e-99999"},
	{"0", "-0", "0.0", "-0.0", "0e5", "-0.0e5", "0e-100000", "0e100000"},
	{"0.1e-100000", "0.01e-99999"},
	{"1e-100000", "0.1e-99999", "1.0e-100000"},
	{"2e-100000"},
	{"1e-30", "0.000000000000000000000000000001"},
	{"0.09"},
	{"0.1", "1e-1", "0.10", "100e-3"},
	{"0.11"},
	{"0.5"},
	{"0." + nines(398)},
	{"1", "1.0", "1e0", "0.1e1", "10e-1", "1e-0"},
	{"1." + noughts(397) + "1"},
	{"1.2"},
	{"1.20000000000000000000001"},
	{"1.23"},
	{"2"},
	{"2.999999999999999999999999"},
	{"3", "3.000"},
	{"9"},
	{"10", "1e1", "1E+1", "1e0001"},
	{"12"},
	{"12.5", "125e-1", "1250e-2", "0.125e2"},
	{"99"},
	{"100", "1e2"},
	{"120"},
	{"1200"},
	{"9007199254740992"},
	{"9007199254740993"},
	{"9223372036854775807"},
	{"9223372036854775808"},
	{"1e30", "1000000000000000000000000000000"},
	{"1" + noughts(399), "1e399"},
	{"1" + noughts(398) + "1"},
	{"1e99999"},
	{"9e99999"},
	{"1e100000", "10e99999", "1.0E+100000"},
	{"10e100000", "100e99999"},
}

func TestCmp(t *testing.T) {
	for i, row := range rising {
		for j, other := range rising {
			want := 0
			if i < j {
				want = -1
			} else if i > j {
				want = 1
			}
			for _, a := range row {
				for _, b := range other {
					if got := dec.Cmp(a, b); got != want {
						t.Errorf("P3.1: Cmp(%q, %q): %d, want %d", short(a), short(b), got, want)
					}
				}
			}
		}
	}
	for _, s := range wrong {
		if dec.Cmp(s, "-10e100000") != -1 || dec.Cmp("-10e100000", s) != 1 || dec.Cmp(s, "") != 0 || dec.Cmp("", s) != 0 {
			t.Errorf("P3.1: Cmp of %q, which is no number", short(s))
		}
	}
}

// The grammar and the form of what Canon tells, said once more.
var (
	grammar = regexp.MustCompile(`^-?(?:0|[1-9][0-9]*)(?:\.[0-9]+)?(?:[eE][+-]?0*([0-9]+))?$`)
	form    = regexp.MustCompile(`^(?:0|-?[1-9](?:\.[0-9]*[1-9])?(?:e-?[1-9][0-9]*)?)$`)
	integer = regexp.MustCompile(`^(?:0|-?[1-9][0-9]*)$`)
)

// good is Good, worked out in another way.
func good(s string) bool {
	m := grammar.FindStringSubmatch(s)
	if m == nil || len(s) > api.MaxDigits || strings.HasSuffix(s, "\n") {
		return false
	}
	return len(m[1]) < 6 || m[1] == "100000"
}

// exact tells a number as a fraction; it is only asked for powers that can be written out.
func exact(t *testing.T, s string) *big.Rat {
	t.Helper()
	r, ok := new(big.Rat).SetString(s)
	if !ok {
		t.Fatalf("no fraction: %q", s)
	}
	return r
}

// checkText holds all that is told of a text against what is worked out in another way.
func checkText(t *testing.T, s string) {
	t.Helper()
	isGood := good(s)
	c, ok := dec.Canon(s)
	if got := dec.Good(s); got != isGood || ok != isGood {
		t.Fatalf("P3.1: Good(%q): %v; Canon: %q, %v", s, got, c, ok)
	}
	n, fits := dec.Int(s)
	if !isGood {
		if c != "" || dec.Whole(s) || n != 0 || fits {
			t.Fatalf("P3.1: of no number %q: Canon %q, Whole %v, Int %d, %v", s, c, dec.Whole(s), n, fits)
		}
		return
	}
	if !form.MatchString(c) {
		t.Fatalf("P3.1: Canon(%q): %q", s, c)
	}
	r := exact(t, s)
	if r.Cmp(exact(t, c)) != 0 {
		t.Fatalf("P3.1: Canon(%q): %q, another number", s, c)
	}
	if got := dec.Whole(s); got != r.IsInt() {
		t.Fatalf("P3.1: Whole(%q): %v", s, got)
	}
	wantFits := integer.MatchString(s) && r.Num().IsInt64()
	if fits != wantFits || fits && (n != r.Num().Int64() || dec.Text(n) != s) || !fits && n != 0 {
		t.Fatalf("P3.1: Int(%q): %d, %v", s, n, fits)
	}
	if dec.Cmp(s, s) != 0 || dec.Good(c) && dec.Cmp(s, c) != 0 || dec.Cmp(s, "0") != r.Sign() {
		t.Fatalf("P3.1: Cmp of %q with itself, with %q and with 0", s, c)
	}
}

// Each text of up to six of the bytes that make a difference; and each two of the short ones.
func TestEveryShortText(t *testing.T) {
	const bytes = "-+.eE012 "
	level := []string{""}
	numbers := []string{}
	fractions := []*big.Rat{}
	for length := range 7 {
		next := []string{}
		for _, s := range level {
			checkText(t, s)
			if length < 5 && good(s) {
				numbers = append(numbers, s)
				fractions = append(fractions, exact(t, s))
			}
			for i := range bytes {
				next = append(next, s+bytes[i:i+1])
			}
		}
		level = next
	}
	for i, a := range numbers {
		for j, b := range numbers {
			if got := dec.Cmp(a, b); got != fractions[i].Cmp(fractions[j]) {
				t.Fatalf("P3.1: Cmp(%s, %s): %d", a, b, got)
			}
		}
	}
}

// Each byte but those of a number, ahead of a number, in the midst of it and behind it.
func TestEveryByte(t *testing.T) {
	for b := range 256 {
		s := string([]byte{byte(b)})
		for _, x := range []string{s, s + "5", "5" + s, "5" + s + "5", "5.5" + s, "5." + s + "5", "5e" + s + "5", "5e5" + s, "5e5" + s + "5", "-" + s + "5", "0" + s, "0" + s + "5"} {
			checkText(t, x)
		}
	}
}

func FuzzText(f *testing.F) {
	for _, x := range texts {
		f.Add(x.s)
	}
	for _, s := range wrong {
		f.Add(s)
	}
	f.Fuzz(func(t *testing.T, s string) { checkText(t, s) })
}
