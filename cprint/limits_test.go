package cprint_test

import (
	"slices"
	"strings"
	"testing"

	"dragoman/api"
	"dragoman/cprint"
)

// wide is a row of so many equal fields.
func wide(n int, field string) []string { return slices.Repeat(row(field), n) }

// tall is a table of so many equal rows.
func tall(n int, fields ...string) [][]string { return slices.Repeat(table(fields), n) }

// wideText is what a row of so many equal fields is written as.
func wideText(n int, field string) string {
	return strings.TrimSuffix(strings.Repeat(field+",", n), ",") + "\r\n"
}

// TestMostCols: a row of MaxCols fields may be, one of one more may not, in a table of any height.
func TestMostCols(t *testing.T) {
	const most = api.MaxCols
	for _, c := range []struct{ s, written string }{{"a", "a"}, {"ab", "ab"}, {",", `","`}, {`"`, `""""`}, {"\u20ac", "\u20ac"}} {
		for _, height := range []int{1, 2, 3, 7} {
			for _, n := range []int{2, most - 1, most} {
				writes(t, tall(height, wide(n, c.s)...), strings.Repeat(wideText(n, c.written), height))
			}
			for _, n := range []int{most + 1, most + 2, 2 * most, 10 * most} {
				writesYet(t, tall(height, wide(n, c.s)...), strings.Repeat(wideText(n, c.written), height))
			}
		}
	}
	writes(t, table(wide(most, "")), strings.Repeat(",", most-1)+"\r\n")
	writesYet(t, table(wide(most+1, "")), strings.Repeat(",", most)+"\r\n")
	// One row too wide among others: here the first row's length is at the limit.
	writesYet(t, table(wide(most, ""), wide(most+1, "")), strings.Repeat(",", most-1)+"\r\n"+strings.Repeat(",", most)+"\r\n")
	writesYet(t, table(wide(most+1, ""), wide(most, "")), strings.Repeat(",", most)+"\r\n"+strings.Repeat(",", most-1)+"\r\n")
}

// TestMostRows: MaxRows + 1 rows may be, one more may not.
func TestMostRows(t *testing.T) {
	const most = api.MaxRows + 1
	for _, c := range []struct {
		row  []string
		line string
	}{
		{row("a"), "a\r\n"}, {row(""), "\"\"\r\n"}, {row("", ""), ",\r\n"}, {row("a", "b,c"), "a,\"b,c\"\r\n"}, {row("\n"), "\"\n\"\r\n"},
	} {
		for _, n := range []int{api.MaxRows - 1, api.MaxRows, most} {
			writes(t, tall(n, c.row...), strings.Repeat(c.line, n))
		}
		for _, n := range []int{most + 1, most + 2, 2 * most} {
			writesYet(t, tall(n, c.row...), strings.Repeat(c.line, n))
		}
	}
	writesYet(t, tall(most+1), strings.Repeat("\r\n", most+1))
	writesYet(t, tall(most), strings.Repeat("\r\n", most))
	// The last row counts as the others do.
	rows := append(tall(most-1, "a", "b"), row("c"))
	writesYet(t, rows, strings.Repeat("a,b\r\n", most-1)+"c\r\n")
	rows = append(tall(most-1, "a"), row("\xff"))
	writesYet(t, rows, strings.Repeat("a\r\n", most-1)+"\xff\r\n")
}

// TestMostBytes: a field of MaxStr bytes may be, one of one more may not, in each place.
func TestMostBytes(t *testing.T) {
	const most = api.MaxStr
	quoted := func(s string) string { return `"` + strings.ReplaceAll(s, `"`, `""`) + `"` }
	plain := func(s string) string { return s }
	for _, c := range []struct {
		s       string
		written func(string) string
	}{
		{strings.Repeat("x", most), plain},
		// Bytes are counted, not letters.
		{strings.Repeat("\u00e9", most/2), plain}, {strings.Repeat("\U0001F600", most/4), plain}, {"a" + strings.Repeat("\u20ac", most/3), plain},
		// The field's own bytes are counted, not those that it is written as.
		{strings.Repeat("x", most-1) + ",", quoted}, {"\n" + strings.Repeat("x", most-1), quoted}, {strings.Repeat("x", most-1) + `"`, quoted}, {strings.Repeat(`"`, most), quoted}, {strings.Repeat(",", most), quoted}, {strings.Repeat("\r", most), quoted},
	} {
		if len(c.s) != most {
			t.Fatalf("a field of %d bytes, not %d", len(c.s), most)
		}
		text := c.written(c.s)
		writes(t, table(row(c.s)), text+"\r\n")
		writes(t, table(row("a", c.s), row(c.s, "b")), "a,"+text+"\r\n"+text+",b\r\n")
		for _, s := range []string{c.s + "x", "x" + c.s, c.s + "\u20ac", c.s + c.s} {
			text := c.written(s)
			writesYet(t, table(row(s)), text+"\r\n")
			writesYet(t, table(row("a", s)), "a,"+text+"\r\n")
			writesYet(t, table(row(s, "a")), text+",a\r\n")
			writesYet(t, table(row("a", s, "b")), "a,"+text+",b\r\n")
			writesYet(t, table(row("a"), row(s)), "a\r\n"+text+"\r\n")
			writesYet(t, table(row(s), row("a")), text+"\r\na\r\n")
		}
		// At the limit, but its last byte begins no letter.
		s := c.s[:most-1] + "\xff"
		if cprint.May(table(row(s))) || cprint.May(table(row("a"), row(s))) {
			t.Errorf("P14.1: May of a field of %d bytes, the last of which begins no letter", len(s))
		}
	}
}

// TestMostText: rows whose text has just MaxText bytes may be, with one byte more they may not, whatever
// the byte is that is too much.
func TestMostText(t *testing.T) {
	const most = api.MaxText
	long := strings.Repeat("x", api.MaxStr)
	// 15 rows of 4,098 bytes; the rest is for the last one.
	const ahead = 15
	text := strings.Repeat(long+"\r\n", ahead)
	for _, c := range []struct {
		name string
		last func(int) (string, string) // a field with so many bytes of x, and its text
	}{
		{"plain", func(n int) (string, string) { return long[:n], long[:n] }},
		{"with a comma", func(n int) (string, string) { return long[:n] + ",", `"` + long[:n] + `,"` }},
		{"with a 10", func(n int) (string, string) { return "\n" + long[:n], "\"\n" + long[:n] + `"` }},
		{"with a 13", func(n int) (string, string) { return "\r" + long[:n], "\"\r" + long[:n] + `"` }},
		{"with a quote", func(n int) (string, string) { return `"` + long[:n], `"""` + long[:n] + `"` }},
		{"with quotes", func(n int) (string, string) { return `""` + long[:n] + `"`, `"""""` + long[:n] + `"""` }},
	} {
		_, none := c.last(0)
		n := most - len(text) - len(none+"\r\n")
		for _, less := range []int{2, 1, 0, -1, -2} {
			field, written := c.last(n - less)
			rows := append(tall(ahead, long), row(field))
			whole := text + written + "\r\n"
			if len(whole) != most-less {
				t.Fatalf("a text of %d bytes, not %d less than %d", len(whole), less, most)
			}
			if less >= 0 {
				writes(t, rows, whole)
				continue
			}
			writesYet(t, rows, whole)
		}
	}
}

// TestMostTextParts: the bytes between fields and at rows' ends count, and so do the quotes of empty fields.
func TestMostTextParts(t *testing.T) {
	const most = api.MaxText
	for _, c := range []struct {
		rows [][]string
		fill int // bytes that the first field may have beside the text of the rows
	}{
		{tall(api.MaxRows+1, wide(api.MaxCols, "")...), most - (api.MaxRows+1)*(api.MaxCols+1)},
		{tall(api.MaxRows+1, wide(api.MaxCols, "a")...), most - (api.MaxRows+1)*(2*api.MaxCols+1)},
		{tall(16, wide(api.MaxCols, strings.Repeat("y", 63))...), most - 16*(64*api.MaxCols+1)},
		{tall(127, wide(32, strings.Repeat("\u00e9", 7))...), most - 127*(15*32+1)},
		{tall(100, wide(40, "\"\n")...), most - 100*(6*40+1)},
		{tall(64, wide(10, strings.Repeat(`"`, 49))...), most - 64*(101*10+1)},
		{tall(8, row("", strings.Repeat("z", api.MaxStr))...), most - 8*(api.MaxStr+3)},
	} {
		text := cprint.Print(c.rows)
		if len(text) != most-c.fill {
			t.Fatalf("P14.1: Print of %d rows has %d bytes, want %d", len(c.rows), len(text), most-c.fill)
		}
		if cprint.May(c.rows) != (c.fill >= 0) {
			t.Errorf("P14.1: May of rows with a text of %d bytes: %v", len(text), c.fill < 0)
		}
		if c.fill < 0 {
			continue
		}
		// Fill it up to the limit, in fields that stay at most MaxStr bytes.
		rows := c.rows
		for i := range rows {
			rows[i] = slices.Clone(rows[i])
		}
		left := c.fill
		for i := 0; left > 0; i++ {
			more := min(left, api.MaxStr-len(rows[i%len(rows)][i/len(rows)]))
			rows[i%len(rows)][i/len(rows)] += strings.Repeat("w", more)
			left -= more
		}
		writes(t, rows, cprint.Print(rows))
		if got := len(cprint.Print(rows)); got != most {
			t.Errorf("P14.1: a text of %d bytes, want %d", got, most)
		}
		last := len(rows) - 1
		end := len(rows[last]) - 1
		if len(rows[last][end]) == api.MaxStr {
			end--
		}
		rows[last][end] += "w"
		writesYet(t, rows, cprint.Print(rows))
	}
}

// TestFarTooMuch: rows far beyond every limit are told quickly, and written.
func TestFarTooMuch(t *testing.T) {
	long := strings.Repeat("x", api.MaxStr)
	if cprint.May(tall(api.MaxRows+1, wide(api.MaxCols, strings.Repeat(`"`, api.MaxStr))...)) {
		t.Errorf("P14.1: May of rows with a text of 269 million bytes")
	}
	if cprint.May(tall(1<<20, wide(1<<10, long)...)) {
		t.Errorf("P14.1: May of a million rows")
	}
	if cprint.May(table(wide(1<<20, long))) {
		t.Errorf("P14.1: May of a million fields")
	}
	if cprint.May(table(row(strings.Repeat(`"`, 1<<24)))) {
		t.Errorf("P14.1: May of a field of 16 million bytes")
	}
	prints(t, tall(300, wide(70, long)...), strings.Repeat(wideText(70, long), 300))
	prints(t, table(row(strings.Repeat(`"`, 1<<20))), strings.Repeat(`"`, 2<<20+2)+"\r\n")
	prints(t, tall(1<<16), strings.Repeat("\r\n", 1<<16))
}
