package tlex_test

import (
	"math"
	"strconv"
	"strings"
	"testing"

	"dragoman/api"
	"dragoman/tlex"
	"dragoman/value"
)

func intOf(n int64) api.Value { return api.Value{Kind: api.Int, N: n} }

func numOf(s string) api.Value { return api.Value{Kind: api.Num, S: s} }

func stampOf(s string) api.Value { return api.Value{Kind: api.Stamp, S: s} }

// numbers are texts of numbers, and what they say.
var numbers = []struct {
	text string
	want api.Value
}{
	// Ints with each sign, and 0 alone.
	{"0", intOf(0)}, {"+0", intOf(0)}, {"-0", intOf(0)}, {"1", intOf(1)}, {"9", intOf(9)}, {"+1", intOf(1)}, {"-1", intOf(-1)}, {"10", intOf(10)}, {"-10", intOf(-10)}, {"+99", intOf(99)}, {"1234567890", intOf(1234567890)}, {"-1234567890", intOf(-1234567890)},
	// A _ between digits.
	{"1_0", intOf(10)}, {"1_000", intOf(1000)}, {"-1_000_000", intOf(-1000000)}, {"+5_3_4", intOf(534)}, {"1_2_3_4_5", intOf(12345)}, {"1_00", intOf(100)}, {"1_0_0", intOf(100)},
	// Of base 16, 8 and 2; noughts ahead may be there.
	{"0x0", intOf(0)}, {"0x1F", intOf(31)}, {"0x1f", intOf(31)}, {"0xdeadbeef", intOf(0xDEADBEEF)}, {"0xDEADBEEF", intOf(0xDEADBEEF)}, {"0xDead_Beef", intOf(0xDEADBEEF)}, {"0x0123456789abcdef", intOf(0x0123456789ABCDEF)}, {"0x0000F", intOf(15)}, {"0x00_0f", intOf(15)}, {"0xa_b_c", intOf(0xABC)}, {"0x1e5", intOf(0x1E5)}, {"0x1E5", intOf(0x1E5)}, {"0x0b1", intOf(0xB1)}, {"0xE", intOf(14)},
	{"0o0", intOf(0)}, {"0o7", intOf(7)}, {"0o755", intOf(493)}, {"0o01234567", intOf(342391)}, {"0o7_5_5", intOf(493)}, {"0o0_0", intOf(0)}, {"0o000017", intOf(15)},
	{"0b0", intOf(0)}, {"0b1", intOf(1)}, {"0b10", intOf(2)}, {"0b11010110", intOf(214)}, {"0b1101_0110", intOf(214)}, {"0b0001", intOf(1)}, {"0b1_0_1", intOf(5)},
	// The greatest and the least that fit.
	{"9223372036854775807", intOf(math.MaxInt64)}, {"+9223372036854775807", intOf(math.MaxInt64)}, {"-9223372036854775807", intOf(-math.MaxInt64)}, {"-9223372036854775808", intOf(math.MinInt64)}, {"9_223_372_036_854_775_807", intOf(math.MaxInt64)}, {"-9_223_372_036_854_775_808", intOf(math.MinInt64)},
	{"0x7fffffffffffffff", intOf(math.MaxInt64)}, {"0x7FFF_FFFF_FFFF_FFFF", intOf(math.MaxInt64)}, {"0x00007fffffffffffffff", intOf(math.MaxInt64)}, {"0o777777777777777777777", intOf(math.MaxInt64)}, {"0b" + strings.Repeat("1", 63), intOf(math.MaxInt64)}, {"0b0" + strings.Repeat("1", 63), intOf(math.MaxInt64)}, {"0x" + strings.Repeat("0", 1000) + "1", intOf(1)}, {"0b0" + strings.Repeat("_0", 1000) + "_1", intOf(1)},
	// Nums with a dot.
	{"0.0", numOf("0.0")}, {"1.0", numOf("1.0")}, {"1.5", numOf("1.5")}, {"+1.5", numOf("1.5")}, {"-1.5", numOf("-1.5")}, {"-0.0", numOf("-0.0")}, {"+0.0", numOf("0.0")}, {"3.1415", numOf("3.1415")}, {"0.007", numOf("0.007")}, {"1.50", numOf("1.50")}, {"10.00", numOf("10.00")},
	// With a power.
	{"1e5", numOf("1e5")}, {"1E5", numOf("1E5")}, {"1e+5", numOf("1e+5")}, {"1E-5", numOf("1E-5")}, {"+1e5", numOf("1e5")}, {"-1e5", numOf("-1e5")}, {"0e0", numOf("0e0")}, {"-0e-0", numOf("-0e-0")}, {"+0E+0", numOf("0E+0")}, {"1e05", numOf("1e05")}, {"1e-007", numOf("1e-007")}, {"1E+06", numOf("1E+06")}, {"1e00", numOf("1e00")}, {"10e2", numOf("10e2")},
	// With both.
	{"6.626e-34", numOf("6.626e-34")}, {"-6.5E+02", numOf("-6.5E+02")}, {"+0.0e0", numOf("0.0e0")}, {"0.5e1", numOf("0.5e1")}, {"12.34e56", numOf("12.34e56")},
	// A _ in each part.
	{"1_0.5", numOf("10.5")}, {"1.0_5", numOf("1.05")}, {"1e1_0", numOf("1e10")}, {"1_0.0_5e-1_0", numOf("10.05e-10")}, {"+2_2_4.6_1_7E+0_9", numOf("224.617E+09")}, {"9_224_617.445_991_228_313", numOf("9224617.445991228313")}, {"1_0e0_0", numOf("10e00")},
	// A num is not bound by 64 bits.
	{"9223372036854775808.0", numOf("9223372036854775808.0")}, {"-99999999999999999999e0", numOf("-99999999999999999999e0")}, {"1e100000", numOf("1e100000")}, {"1e-100000", numOf("1e-100000")}, {"1E+000100_000", numOf("1E+000100000")},
	// inf and nan.
	{"inf", stampOf("inf")}, {"+inf", stampOf("+inf")}, {"-inf", stampOf("-inf")}, {"nan", stampOf("nan")}, {"+nan", stampOf("+nan")}, {"-nan", stampOf("-nan")},
}

// says tells that a text is a number, with this value.
func says(t *testing.T, text string, want api.Value) {
	t.Helper()
	if v, e := tlex.Number(text); e != api.OK || !value.Same(v, want) {
		t.Errorf("P10.2: Number(%q): %+v, %d, want %+v", short(text), v, e, want)
	}
	if !value.Good(want) {
		t.Errorf("P10.2: what Number(%q) should say may not be", short(text))
	}
}

// saysNot tells that a text is no number, and why.
func saysNot(t *testing.T, text string, want api.Errno) {
	t.Helper()
	v, e := tlex.Number(text)
	if e != want {
		t.Errorf("P10.2: Number(%q): %+v, %d, want the error %d", short(text), v, e, want)
	}
	if !value.Same(v, api.Value{}) {
		t.Errorf("R2: Number(%q): %+v beside an error", short(text), v)
	}
}

func TestNumber(t *testing.T) {
	for _, c := range numbers {
		says(t, c.text, c.want)
	}
}

// noNumbers are rows that are no number.
var noNumbers = []string{
	"", "+", "-", "_", ".", "e", "E", ":", " ",
	// A 0 ahead of digits.
	"00", "01", "+00", "-01", "007", "0_1", "0_0", "-0_1", "01.5", "00.5", "-00.0", "0_0.5", "01e5", "00e0", "+01.0e0",
	// A _ at either end, twice, or not between two digits.
	"_1", "1_", "1__0", "1___0", "__1", "1__", "+_1", "-_1", "_+1", "+1_", "_", "__", "_1_000", "1_000_", "0_", "1_.5", "1._5", "1.5_", "1.0__5", "1_e5", "1e_5", "1e5_", "1e1__0", "1e+_5", "1e_+5", "1.5_e5", "_1.5", "_1e5",
	"0_x1", "0x_1", "0x1_", "0x1__2", "0_o7", "0o_7", "0o7_", "0o7__7", "0_b1", "0b_1", "0b1_", "0b1__1",
	// Signs.
	"++1", "--1", "+-1", "-+1", "1+", "1-", "1+2", "1-2", "+ 1", "1e++5", "1e+-5", "1e5+", "1.+5", "1.-5",
	// A base with a sign, with no digits, with others, with a dot or a power.
	"0x", "0o", "0b", "+0x1", "-0x1", "+0o7", "-0o7", "+0b1", "-0b1", "0x+1", "0x-1", "0o-7", "0b+1", "0X1", "0O7", "0B1", "0xg", "0xG", "0x1g", "0xg1", "0o8", "0o18", "0o81", "0oa", "0b2", "0b12", "0b21", "0ba", "0b1e1", "0o7e1", "0x1.5", "0x1.", "0b1.0", "0o7.7", "0x1p5", "00x1", "10x1", "0x0x1", "0d1", "0x 1", "x1", "o7", "b1", "x", "1x", "0x1-1", "0xe+5",
	// A dot or a power with nothing ahead of it or behind it.
	"1.", ".5", "-.5", "+.5", "1..5", "1.2.3", ".", "1.e5", ".e5", "e5", "-e5", "E5", "1e", "1E", "1e+", "1E-", "1.5e", "1.5e-", "0.", "0e", "-0.", "1ee5", "1e5e5", "1e5E5", "1e5.5", "1e.5", "1e5.", "1.5.e5",
	// Other words, also in other letters.
	"Inf", "INF", "NaN", "Nan", "NAN", "infinity", "in", "na", "infx", "xinf", "inf_", "_inf", "i_nf", "++inf", "+-inf", "--nan", "- inf", "inf ", " inf", "inf5", "5inf", "1inf", "infnan", "naninf", "+", "+i", "true", "false", "null", "nil", "a", "Z", "abc", "0a", "1a", "a1", "1f", "1.5f", "1d", "0i", "1L",
	// Blanks and other bytes.
	" 1", "1 ", "1 0", "\t1", "1\n", "\n", "1\r", "1,", "1,5", "1'000", "(1)", "$1", "1%", "1/2", "1*2", "1:2", "07:32:00", "1979-05-27", "\x00", "1\x00", "\xff", "1\xff", "\u00e9", "1\u00e9", "\u0661", "\uff11", "\u22121", "1\u00a0", "\u221e", "1\u00d7", "1.\u0665", "1e\u0665",
}

func TestNoNumber(t *testing.T) {
	for _, text := range noNumbers {
		saysNot(t, text, api.ESYNTAX)
	}
	// What is of no number's form is that first of all, however great it is.
	nines := strings.Repeat("9", 500)
	for _, text := range []string{"0" + nines, nines + "_", "_" + nines, nines + ".", "." + nines, "+-" + nines, nines + "x", "0b" + nines, "0x" + nines + "g", "-0x" + nines, "1e" + nines + ".", "01e" + nines, "1.e" + nines, "1e" + nines + "_", "1." + nines + "_", nines + "e", nines + " "} {
		saysNot(t, text, api.ESYNTAX)
	}
}

// TestGreatInt: an int that does not fit 64 bits is ERANGE.
func TestGreatInt(t *testing.T) {
	for _, text := range []string{
		"9223372036854775808", "+9223372036854775808", "-9223372036854775809", "9_223_372_036_854_775_808", "-9_223372036854775809", "9223372036854775810", "-9223372036854775810", "10000000000000000000", "18446744073709551615", "18446744073709551616", "-18446744073709551616", "18446744073709551617", "99999999999999999999", "-99999999999999999999", "36893488147419103233",
		"0x8000000000000000", "0x8000_0000_0000_0000", "0xffffffffffffffff", "0xFFFFFFFFFFFFFFFF", "0x10000000000000000", "0x10000000000000001", "0x0008000000000000000", "0o1000000000000000000000", "0o1777777777777777777777", "0o2000000000000000000001", "0b1" + strings.Repeat("0", 63), "0b" + strings.Repeat("1", 64), "0b1" + strings.Repeat("0", 63) + "1",
		strings.Repeat("9", 400), strings.Repeat("9", 401), "-" + strings.Repeat("9", 401), "1" + strings.Repeat("_0", 5000), "0x1" + strings.Repeat("0", 500), "0b1" + strings.Repeat("_1", 500),
	} {
		saysNot(t, text, api.ERANGE)
	}
	for _, n := range []int64{0, 1, -1, 7, 8, -8, 255, math.MaxInt32, math.MinInt32, 1 << 32, math.MaxInt64 - 1, math.MaxInt64, math.MinInt64 + 1, math.MinInt64} {
		says(t, strconv.FormatInt(n, 10), intOf(n))
		if n >= 0 {
			says(t, "+"+strconv.FormatInt(n, 10), intOf(n))
			says(t, "0x"+strconv.FormatInt(n, 16), intOf(n))
			says(t, "0x"+strings.ToUpper(strconv.FormatInt(n, 16)), intOf(n))
			says(t, "0o"+strconv.FormatInt(n, 8), intOf(n))
			says(t, "0b"+strconv.FormatInt(n, 2), intOf(n))
		}
	}
}

// TestLongNum: what counts is the text without each _ and the + ahead.
func TestLongNum(t *testing.T) {
	nines := func(n int) string { return strings.Repeat("9", n) }
	noughts := func(n int) string { return strings.Repeat("0", n) }
	for _, most := range []string{
		"1." + nines(398), "0." + noughts(398), "-0." + nines(397), nines(398) + ".5", "-" + nines(397) + "e5", "1e" + noughts(398), "1E+" + noughts(391) + "100000", "1." + nines(391) + "e-10000", "1e-" + noughts(396) + "7",
	} {
		if len(most) != api.MaxDigits {
			t.Fatalf("%s has not %d bytes", short(most), api.MaxDigits)
		}
		says(t, most, numOf(most))
		if most[0] != '-' {
			says(t, "+"+most, numOf(most))
		}
		joined := most[:len(most)-1] + "_" + most[len(most)-1:]
		if strings.Contains("0123456789", most[len(most)-2:len(most)-1]) {
			says(t, joined, numOf(most))
			saysNot(t, joined+"0", api.ERANGE)
		}
		saysNot(t, most+"0", api.ERANGE)
		saysNot(t, most+"_0", api.ERANGE)
		saysNot(t, most+noughts(1000), api.ERANGE)
	}
	says(t, "0."+strings.Repeat("1_", 397)+"1", numOf("0."+strings.Repeat("1", 398)))
	saysNot(t, "0."+strings.Repeat("1_", 398)+"1", api.ERANGE)
	saysNot(t, nines(400)+"e5", api.ERANGE)
	saysNot(t, "0."+noughts(100000), api.ERANGE)
}

func TestPower(t *testing.T) {
	for _, head := range []string{"1", "0", "-1", "12.50", "-0.0"} {
		for _, e := range []string{"e", "E", "e+", "E+", "e-", "E-", "e0", "e-00", "E+000"} {
			for _, power := range []string{"0", "9", "99999", "100000"} {
				says(t, head+e+power, numOf(head+e+power))
			}
			for _, power := range []string{"100001", "100010", "200000", "999999", "1000000", "4294967296", "18446744073709551616"} {
				saysNot(t, head+e+power, api.ERANGE)
				saysNot(t, "0"+head+e+power, api.ESYNTAX)
			}
			says(t, head+e+"1_0_0_0_0_0", numOf(head+e+"100000"))
			saysNot(t, head+e+"1_0_0_0_0_1", api.ERANGE)
		}
	}
}
