package cread_test

import (
	"fmt"
	"slices"
	"strings"
	"testing"

	"dragoman/api"
	"dragoman/cread"
)

// rowsOf are so many rows of these fields.
func rowsOf(n int, fields ...string) [][]string {
	return slices.Repeat([][]string{fields}, n)
}

// TestMostText: texts of MaxText bytes, and of one more and many more.
func TestMostText(t *testing.T) {
	line := strings.Repeat("x", api.MaxStr-1)
	lines := strings.Repeat(line+"\n", api.MaxText/api.MaxStr)
	says(t, lines, rowsOf(api.MaxText/api.MaxStr, line)...)
	says(t, lines[:len(lines)-1], rowsOf(api.MaxText/api.MaxStr, line)...)
	refuses(t, lines+"\n", api.MaxText+1, api.ELIMIT)
	refuses(t, lines+lines+lines, 3*api.MaxText, api.ELIMIT)

	// A text of twice as many bytes as what it says.
	quotes := `"` + strings.Repeat(`""`, api.MaxStr-2) + "\"\r\n"
	text := strings.Repeat(quotes, api.MaxText/len(quotes))
	if len(text) != api.MaxText {
		t.Fatalf("a text of %d bytes, not of MaxText", len(text))
	}
	says(t, text, rowsOf(api.MaxText/len(quotes), strings.Repeat(`"`, api.MaxStr-2))...)
	refuses(t, text+"x", api.MaxText+1, api.ELIMIT)

	// At the text's end, whatever is wrong ahead of it; its line and column are of the whole text.
	for _, part := range []string{"x", "\"", "\r", ",", "\n", "\xff", "\u20ac", "\x00", "a\n\u20ac"} {
		long := strings.Repeat(part, api.MaxText/len(part)+1)
		refuses(t, long, len(long), api.ELIMIT)
		refuses(t, lines+part, len(lines+part), api.ELIMIT)
	}
	// At MaxText the other faults are told.
	for _, c := range []struct {
		part string
		at   int
		err  api.Errno
	}{
		{"x", 0, api.ELIMIT}, {"\"", 0, api.ELIMIT}, {"\r", 0, api.ESYNTAX}, {",", api.MaxCols, api.ELIMIT}, {"\n", api.MaxRows + 1, api.ELIMIT}, {"\xff", 0, api.EUTF}, {"\x00", 0, api.ELIMIT}, {"\u00e9", 0, api.ELIMIT},
	} {
		refuses(t, strings.Repeat(c.part, api.MaxText/len(c.part)), c.at, c.err)
	}
	refuses(t, lines[:api.MaxText-1]+"\xff", api.MaxText-1, api.EUTF)
	refuses(t, lines[:api.MaxText-1]+"\"", api.MaxText-1, api.ESYNTAX)
	refuses(t, "\""+lines[:api.MaxText-1], api.MaxText, api.ESYNTAX)
}

// Fields of so many bytes, as they are written and what they say.
func sized(n int) []struct{ text, says string } {
	out := []struct{ text, says string }{}
	for _, part := range []string{"x", " ", "\x00", "\u00e9", "\u20ac", "\U0001F600"} {
		s := strings.Repeat(part, n/len(part)) + strings.Repeat("y", n%len(part))
		out = append(out, struct{ text, says string }{s, s}, struct{ text, says string }{`"` + s + `"`, s})
	}
	for _, part := range []string{",", "\n", "\r", "\r\n"} {
		s := strings.Repeat(part, n/len(part)) + strings.Repeat("y", n%len(part))
		out = append(out, struct{ text, says string }{`"` + s + `"`, s})
	}
	// Two quotes are one byte.
	out = append(out, struct{ text, says string }{`"` + strings.Repeat(`""`, n) + `"`, strings.Repeat(`"`, n)})
	out = append(out, struct{ text, says string }{`"""` + strings.Repeat("x", n-1) + `"`, `"` + strings.Repeat("x", n-1)})
	out = append(out, struct{ text, says string }{`"` + strings.Repeat("x", n-1) + `"""`, strings.Repeat("x", n-1) + `"`})
	return out
}

// TestMostField: fields of MaxStr bytes, and of one more: at the field's beginning, once it has ended.
func TestMostField(t *testing.T) {
	for _, f := range sized(api.MaxStr) {
		says(t, f.text, row(f.says))
		says(t, f.text+"\n", row(f.says))
		says(t, f.text+"\r\n", row(f.says))
		says(t, f.text+","+f.text+"\n"+f.text+","+f.text, row(f.says, f.says), row(f.says, f.says))
		says(t, "a,"+f.text+",b", row("a", f.says, "b"))
	}
	for _, n := range []int{api.MaxStr + 1, api.MaxStr + 2, 2 * api.MaxStr} {
		for _, f := range sized(n) {
			for _, ahead := range []string{"", "a,", ",", "\n", "a\r\n", "\"\u20ac\n\",", "a,b\n", "a,b\nc,", "\u20ac,b\n\u20ac,", strings.Repeat("z", api.MaxStr) + ","} {
				// What stands behind its end is not read any more.
				for _, behind := range []string{"", "\n", "\r\n", ",", ",b", "\nb", ",b\"", "\n\"", ",\"", ",\r", "\n\r", "\r\n\r", ",\"b\"c", "\nb,c,d,e\n", strings.Repeat(",", api.MaxCols)} {
					refuses(t, ahead+f.text+behind, len(ahead), api.ELIMIT)
				}
			}
		}
	}
}

// TestFieldNotEnded: what is wrong in a field, or right behind its quotes, stands ahead of the field's end.
func TestFieldNotEnded(t *testing.T) {
	for _, n := range []int{api.MaxStr, api.MaxStr + 1, 2 * api.MaxStr} {
		long := strings.Repeat("x", n)
		for _, ahead := range []string{"", "a,", "a\n", "\u20ac,b\nc,"} {
			text := ahead + long
			refuses(t, text+"\"", len(text), api.ESYNTAX)
			refuses(t, text+"\"\",b", len(text), api.ESYNTAX)
			text = ahead + "\"" + long
			refuses(t, text, len(text), api.ESYNTAX)
			refuses(t, text+"\"\"", len(text)+2, api.ESYNTAX)
			refuses(t, text+",\n", len(text)+2, api.ESYNTAX)
			text += "\""
			for _, behind := range []string{"y", " ", " ,", "y\n", "\u20ac", "y\"", "\x00"} {
				refuses(t, text+behind, len(text), api.ESYNTAX)
			}
			// A 13 alone is no row's end, so that it may not stand there either.
			for _, behind := range []string{"\r", "\ry", "\r\r\n", "\r,"} {
				refuses(t, text+behind, len(text), api.ESYNTAX)
			}
		}
	}
	// A field without quotes has ended ahead of a 13, be there a 10 behind it or not.
	for _, behind := range []string{"\r", "\ry", "\r\n", "\r\r\n"} {
		refuses(t, "a,"+strings.Repeat("x", api.MaxStr+1)+behind, 2, api.ELIMIT)
	}
	refuses(t, "a,"+strings.Repeat("x", api.MaxStr)+"\r", 2+api.MaxStr, api.ESYNTAX)
	// Of two such fields the first; and a field ahead of its row.
	long := strings.Repeat("x", api.MaxStr+1)
	refuses(t, long+","+long, 0, api.ELIMIT)
	refuses(t, "a,"+long+"\n"+long, 2, api.ELIMIT)
	refuses(t, "a,b\n"+long, 4, api.ELIMIT)
	refuses(t, "a,b\nc,d,"+long+"\n", 8, api.ELIMIT)
	refuses(t, "a,b\nc\n"+long, 4, api.EROW)
}

// TestMostFields: rows of MaxCols fields, and of more: at the first field too many.
func TestMostFields(t *testing.T) {
	for _, f := range []struct{ text, says string }{{"", ""}, {"a", "a"}, {`""`, ""}, {`"a,b"`, "a,b"}, {"\"\n\"", "\n"}, {"\u20ac", "\u20ac"}, {strings.Repeat("x", 99), strings.Repeat("x", 99)}} {
		for n := api.MaxCols - 1; n <= api.MaxCols+3; n++ {
			text := strings.TrimSuffix(strings.Repeat(f.text+",", n), ",")
			if f.text == "" {
				text = strings.Repeat(",", n-1)
			}
			want := slices.Repeat([]string{f.says}, n)
			if n <= api.MaxCols {
				says(t, text, want)
				says(t, text+"\r\n"+text+"\n", want, want)
				continue
			}
			at := len(strings.Repeat(f.text+",", api.MaxCols))
			for _, behind := range []string{"", "\n", "\r\n", "\"", "\r", ",", strings.Repeat(",", 99), "\nb", strings.Repeat("y", api.MaxStr+1)} {
				refuses(t, text+behind, at, api.ELIMIT)
				refuses(t, "a\n"+text+behind, len("a\n")+at, api.ELIMIT)
				refuses(t, "\"\n\",b\r\nc,d\r\n"+text+behind, len("\"\n\",b\r\nc,d\r\n")+at, api.ELIMIT)
			}
		}
	}
	// The field too many is not read, be it right or wrong; the one ahead of it is.
	full := strings.Repeat("a,", api.MaxCols)
	for _, field := range []string{"", "\"", "b\"", "\r", "\"b\"c", "\n", strings.Repeat("x", api.MaxStr+1)} {
		refuses(t, full+field, len(full), api.ELIMIT)
	}
	refuses(t, full[:len(full)-1]+"\",", len(full)-1, api.ESYNTAX)
	refuses(t, full[:len(full)-2]+strings.Repeat("x", api.MaxStr+1)+",", len(full)-2, api.ELIMIT)
	// It comes ahead of the row's end, and so of its length.
	refuses(t, "a\n"+full+"\n", len("a\n"+full), api.ELIMIT)
	refuses(t, "a\nb,c\n"+full, len("a\n"), api.EROW)
	refuses(t, full[:len(full)-1]+"\n"+full, 2*len(full), api.ELIMIT)
	refuses(t, full[:len(full)-1]+"\n"+full[:len(full)-3], len(full), api.EROW)
}

// TestMostRows: MaxRows + 1 rows, and more: at the first row too many.
func TestMostRows(t *testing.T) {
	for _, r := range []struct {
		text string
		says []string
	}{{"", row("")}, {"a", row("a")}, {"a,b", row("a", "b")}, {"\"\n\"", row("\n")}, {"\"\r\n\r\n\",", row("\r\n\r\n", "")}, {"\u20ac,\"\"\"\"", row("\u20ac", `"`)}} {
		for _, end := range []string{"\n", "\r\n"} {
			full := strings.Repeat(r.text+end, api.MaxRows+1)
			says(t, full, rowsOf(api.MaxRows+1, r.says...)...)
			says(t, full[:len(full)-len(r.text+end)], rowsOf(api.MaxRows, r.says...)...)
			if r.text != "" {
				says(t, full[:len(full)-len(end)], rowsOf(api.MaxRows+1, r.says...)...)
			}
			// The row too many is not read, be it right or wrong, of as many fields or not.
			for _, more := range []string{"a", r.text + end, "\n", "\r\n", "\r", "\"", "\"a\"b", "a\"", ",", ",,,", strings.Repeat(",", 99), strings.Repeat("x", api.MaxStr+1), strings.Repeat("\n", 99)} {
				refuses(t, full+more, len(full), api.ELIMIT)
			}
		}
	}
	// What is wrong in the last row that may be comes ahead of that.
	most := strings.Repeat("a\n", api.MaxRows)
	refuses(t, most+"b,c\nd", len(most), api.EROW)
	refuses(t, most+"b\"\nd", len(most)+1, api.ESYNTAX)
	refuses(t, most+strings.Repeat("x", api.MaxStr+1)+"\nd", len(most), api.ELIMIT)
	refuses(t, most+"b\n\xff", len(most)+2, api.EUTF)
}

// TestMostOfAll: as many rows of as many fields as a text holds.
func TestMostOfAll(t *testing.T) {
	line := strings.Repeat(",", api.MaxCols-1)
	rows := api.MaxRows + 1
	says(t, strings.Repeat(line+"\n", rows), rowsOf(rows, make([]string, api.MaxCols)...)...)
	says(t, strings.Repeat(line+"\r\n", rows), rowsOf(rows, make([]string, api.MaxCols)...)...)
	for _, cols := range []int{1, 2, 3, 7, api.MaxCols} {
		text, want := "", [][]string{}
		for i := range rows {
			fields := []string{}
			for j := range cols {
				fields = append(fields, fmt.Sprint((i*cols+j)%10))
			}
			want = append(want, fields)
			line := strings.Join(fields, ",") + "\n"
			if len(text)+len(line) > api.MaxText {
				break
			}
			text += line
		}
		says(t, text, want[:strings.Count(text, "\n")]...)
		if _, fault := cread.Rows(text + strings.Repeat("x", api.MaxText)); fault.Err != api.ELIMIT || fault.At != len(text)+api.MaxText {
			t.Errorf("P13.1: Rows of %d columns and too much behind them: %+v", cols, fault)
		}
	}
}
