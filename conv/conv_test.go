package conv_test

import (
	"fmt"
	"math"
	"strings"
	"testing"
	"unicode/utf8"

	"dragoman/api"
	"dragoman/conv"
	"dragoman/jread"
	"dragoman/loss"
	"dragoman/value"
)

// The formats.
const (
	json = 1
	toml = 2
	csv  = 3
)

var formats = []int{json, toml, csv}

// others are numbers of no format.
var others = []int{0, -1, -2, -3, 4, 5, 257, 258, 259, math.MaxInt, math.MinInt, math.MinInt + 1, 1<<32 + 1}

var null = api.Value{}

func whole(n int64) api.Value { return api.Value{Kind: api.Int, N: n} }

func num(s string) api.Value { return api.Value{Kind: api.Num, S: s} }

func said(s string) api.Value { return api.Value{Kind: api.Str, S: s} }

func stamp(s string) api.Value { return api.Value{Kind: api.Stamp, S: s} }

func list(l ...api.Value) api.Value { return api.Value{Kind: api.List, L: l} }

func pairs(m ...api.Pair) api.Value { return api.Value{Kind: api.Map, M: m} }

func pair(key string, v api.Value) api.Pair { return api.Pair{Key: key, V: v} }

func of(key string, v api.Value) api.Value { return pairs(pair(key, v)) }

// read is the value of a JSON text in which a string that begins with @ is a stamp.
func read(t *testing.T, s string) api.Value {
	t.Helper()
	v, fault := jread.Parse(s)
	if fault.Err != api.OK {
		t.Fatalf("%s is not JSON: %+v", s, fault)
	}
	return stamps(v)
}

// stamps makes stamps of the strings that begin with @.
func stamps(v api.Value) api.Value {
	if v.Kind == api.Str && strings.HasPrefix(v.S, "@") {
		return stamp(v.S[1:])
	}
	for i := range v.L {
		v.L[i] = stamps(v.L[i])
	}
	for i := range v.M {
		v.M[i].V = stamps(v.M[i].V)
	}
	return v
}

// lines is a text with a byte 10 for each ;, and 13 10 for each !.
func lines(s string) string {
	return strings.NewReplacer(";", "\n", "!", "\r\n").Replace(s)
}

// told tells a head of anything.
func told(x any) string { return fmt.Sprintf("%.300s", fmt.Sprintf("%+v", x)) }

// quoted tells a head of a text.
func quoted(s string) string { return fmt.Sprintf("%.300s", fmt.Sprintf("%q", s)) }

// notesText tells notes: of each its path, : and its number, with blanks between.
func notesText(notes []loss.Note) string {
	all := []string{}
	for _, note := range notes {
		all = append(all, fmt.Sprint(note.Path, ":", note.What))
	}
	return strings.Join(all, " ")
}

// reads tells that Read makes just this value of a text.
func reads(t *testing.T, f int, text string, want api.Value) {
	t.Helper()
	got, fault := conv.Read(f, text)
	if fault != (api.Fault{}) || !value.Same(got, want) {
		t.Errorf("P19.1: Read(%d, %s): %s, %+v, want %s", f, quoted(text), told(got), fault, told(want))
	}
}

// unread tells that Read makes nothing of a text, with this fault; and that Convert tells it too, whatever
// the other format is.
func unread(t *testing.T, f int, text string, want api.Fault) {
	t.Helper()
	if got, fault := conv.Read(f, text); fault != want || !value.Same(got, null) {
		t.Errorf("P19.1: Read(%d, %s): %s, %+v, want %+v", f, quoted(text), told(got), fault, want)
	}
	for to := -1; to <= 5; to++ {
		if out, notes, fault := conv.Convert(f, to, text); fault != want || out != "" || len(notes) > 0 {
			t.Errorf("P19.1: Convert(%d, %d, %s): %s, %s, %+v, want %+v", f, to, quoted(text), quoted(out), notesText(notes), fault, want)
		}
	}
}

// writes tells that Write makes just this text of a value, that To does so too, without notes, and that it is
// read back.
func writes(t *testing.T, f int, v api.Value, want string) {
	t.Helper()
	if got, e := conv.Write(f, v); e != api.OK || got != want {
		t.Errorf("P19.1: Write(%d, %s): %s, %d, want %s", f, told(v), quoted(got), e, quoted(want))
	}
	becomes(t, f, v, want, "")
	if back, fault := conv.Read(f, want); fault != (api.Fault{}) || !value.Same(back, v) {
		t.Errorf("P19.2: %s, that Write(%d) makes of %s, is read back as %s, %+v", quoted(want), f, told(v), told(back), fault)
	}
}

// unwritten tells that Write makes nothing of a value, with this error.
func unwritten(t *testing.T, f int, v api.Value, want api.Errno) {
	t.Helper()
	if got, e := conv.Write(f, v); e != want || got != "" {
		t.Errorf("P19.1: Write(%d, %s): %s, %d, want %d", f, told(v), quoted(got), e, want)
	}
}

// becomes tells that To makes just this text of a value, with these notes.
func becomes(t *testing.T, f int, v api.Value, want, notes string) {
	t.Helper()
	got, gotNotes, e := conv.To(f, v)
	if e != api.OK || got != want || notesText(gotNotes) != notes {
		t.Errorf("P19.1: To(%d, %s): %s, %s, %d, want %s, %s", f, told(v), quoted(got), told(notesText(gotNotes)), e, quoted(want), told(notes))
	}
}

// refused tells that To and Chain make nothing of a value, with this error.
func refused(t *testing.T, f int, v api.Value, want api.Errno) {
	t.Helper()
	if got, notes, e := conv.To(f, v); e != want || got != "" || len(notes) > 0 {
		t.Errorf("P19.1: To(%d, %s): %s, %s, %d, want %d", f, told(v), quoted(got), notesText(notes), e, want)
	}
	for _, behind := range [][]int{{}, {json}, {toml, csv}, {99}} {
		unchained(t, v, append([]int{f}, behind...), want)
	}
}

// converts tells that Convert makes just this text, with these notes.
func converts(t *testing.T, from, to int, text, want, notes string) {
	t.Helper()
	got, gotNotes, fault := conv.Convert(from, to, text)
	if fault != (api.Fault{}) || got != want || notesText(gotNotes) != notes {
		t.Errorf("P19.1: Convert(%d, %d, %s): %s, %s, %+v, want %s, %s", from, to, quoted(text), quoted(got), told(notesText(gotNotes)), fault, quoted(want), told(notes))
	}
}

// chains tells that Chain makes just this of a value, with these notes.
func chains(t *testing.T, v api.Value, l []int, want api.Value, notes string) {
	t.Helper()
	got, gotNotes, e := conv.Chain(v, l...)
	if e != api.OK || !value.Same(got, want) || notesText(gotNotes) != notes {
		t.Errorf("P19.1: Chain(%s, %v): %s, %s, %d, want %s, %s", told(v), l, told(got), told(notesText(gotNotes)), e, told(want), told(notes))
	}
}

// unchained tells that Chain makes nothing of a value, with this error.
func unchained(t *testing.T, v api.Value, l []int, want api.Errno) {
	t.Helper()
	if got, notes, e := conv.Chain(v, l...); e != want || !value.Same(got, null) || len(notes) > 0 {
		t.Errorf("P19.1: Chain(%s, %v): %s, %s, %d, want %d", told(v), l, told(got), notesText(notes), e, want)
	}
}

// TestExample: the chapter's own.
func TestExample(t *testing.T) {
	text, notes, fault := conv.Convert(json, csv, `[{"a":1}]`)
	if text != "a\r\n1\r\n" || len(notes) > 0 || fault != (api.Fault{}) {
		t.Errorf("P19.1: Convert of the example: %q, %+v, %+v", text, notes, fault)
	}
}

// written are values with their texts in each format that can say them, as Write makes them.
var written = []struct{ v, json, toml, csv string }{
	{v: "null", json: "null"}, {v: "true", json: "true"}, {v: "5", json: "5"}, {v: "-0", json: "-0"}, {v: ` "a\u0062" `, json: `"ab"`}, {v: "[]", json: "[]"}, {v: "[ 1 , null ]", json: "[1,null]"}, {v: "[{}]", json: "[{}]"},
	{v: "{}", json: "{}", toml: ""}, {v: `{"b":1,"a":"x"}`, json: `{"a":"x","b":1}`, toml: `a = "x";b = 1;`}, {v: `{"a":{"b":[1,2]},"c":1.50}`, json: `{"a":{"b":[1,2]},"c":1.50}`, toml: "c = 1.50;;[a];b = [1, 2];"}, {v: `{"a":null}`, json: `{"a":null}`}, {v: `{"a":[{"b":1},{}]}`, json: `{"a":[{"b":1},{}]}`, toml: "[[a]];b = 1;;[[a]];"},
	{v: `{"a":"@2020-01-01"}`, toml: "a = 2020-01-01;"}, {v: `{"a":["@inf",-0.0]}`, toml: "a = [inf, -0.0];"}, {v: `{"":"\n\"","a b":true}`, json: `{"":"\n\"","a b":true}`, toml: `"" = "\n\"";"a b" = true;`},
	{v: `[{"a":1}]`, json: `[{"a":1}]`, csv: "a!1!"}, {v: `[{"a":null}]`, json: `[{"a":null}]`, csv: "a!null!"}, {v: `[{"b":1,"a":"x"},{"a":-0}]`, json: `[{"a":"x","b":1},{"a":-0}]`, csv: "a,b!x,1!-0,!"}, {v: `[{"a":{"b":[1,{"c":"5"}]}},{"d":[]}]`, json: `[{"a":{"b":[1,{"c":"5"}]}},{"d":[]}]`, csv: "a/b/0,a/b/1/c,d!1,'5,!,,[]!"},
	{v: `[{"a":"@x y"}]`, csv: "a!@x y!"}, {v: `[{"a":"","b":","},{"a":"\"","b":"\n"}]`, json: `[{"a":"","b":","},{"a":"\"","b":"\n"}]`, csv: `a,b!',","!"""",";"!`}, {v: `[{"":true}]`, json: `[{"":true}]`, csv: `""!true!`}, {v: `[{"a,b":1,"c/d":2,"~":3}]`, json: `[{"a,b":1,"c/d":2,"~":3}]`, csv: `"a,b",c~1d,~0!1,2,3!`},
}

// each goes through the formats that can say a value, with their texts.
func each(t *testing.T, do func(f int, v api.Value, text string)) {
	for _, c := range written {
		v := read(t, c.v)
		if c.json != "" {
			do(json, v, c.json)
		}
		if c.toml != "" || c.v == "{}" {
			do(toml, v, lines(c.toml))
		}
		if c.csv != "" {
			do(csv, v, lines(c.csv))
		}
	}
}

func TestWrite(t *testing.T) {
	n := 0
	each(t, func(f int, v api.Value, text string) {
		writes(t, f, v, text)
		reads(t, f, text, v)
		converts(t, f, f, text, text, "")
		chains(t, v, []int{f, f}, v, "")
		n++
	})
	for _, c := range written {
		for f, text := range map[int]string{json: c.json, toml: c.toml, csv: c.csv} {
			if text == "" && (f != toml || c.v != "{}") {
				unwritten(t, f, read(t, c.v), api.EARG)
				n++
			}
		}
	}
	if n != 3*len(written) {
		t.Errorf("%d texts, not three of each value", n)
	}
}

// readOnly are texts that are read, though Write would make others, with their values.
var readOnly = []struct {
	f    int
	text string
	want string
}{
	{json, " [ 1 , 2.50 ] ", "[1,2.50]"}, {json, ";{\"b\":1!,\t\"a\":\"\\u0061\"}", `{"a":"a","b":1}`}, {json, "1E5", "1E5"},
	{toml, "", "{}"}, {toml, "# x;;", "{}"}, {toml, "a.b=1", `{"a":{"b":1}}`}, {toml, "a = 0x1F # x!b = '''x'''", `{"a":31,"b":"x"}`}, {toml, "[a];[[b]];c = 1979-05-27 07:32:00Z", `{"a":{},"b":[{"c":"@1979-05-27 07:32:00Z"}]}`}, {toml, "a = +1_0", `{"a":10}`},
	{csv, "a;1", `[{"a":1}]`}, {csv, "b,a;1,2;", `[{"a":2,"b":1}]`}, {csv, `"a","b"!"1",'1`, `[{"a":1,"b":"1"}]`}, {csv, "a,b;1,;,2", `[{"a":1},{"b":2}]`}, {csv, "a/1,a/0;2,1", `[{"a":[1,2]}]`}, {csv, "a,b/0;1,x;", `[{"a":1,"b":["x"]}]`}, {csv, "a;@ ;'@ ;5.50;'x", `[{"a":"@ "},{"a":"\u0040 "},{"a":5.50},{"a":"x"}]`}, {csv, ";5", `[{"":5}]`},
	{csv, "a;null", `[{"a":null}]`}, {csv, "a,b;{},[]", `[{"a":{},"b":[]}]`}, {csv, "a/b,c;1,;,2;3,4", `[{"a":{"b":1}},{"c":2},{"a":{"b":3},"c":4}]`}, {csv, "a,b,c,d;,,3,", `[{"c":3}]`}, {csv, "a; ", `[{"a":" "}]`},
}

func TestRead(t *testing.T) {
	for _, c := range readOnly {
		want := read(t, c.want)
		if strings.Contains(c.want, `"\u0040`) {
			// A string that begins with @, and not a stamp.
			want.L[1] = of("a", said("@ "))
		}
		reads(t, c.f, lines(c.text), want)
	}
}

// marked is a text with a fault where a | stands in it, which is none of the text.
func marked(s string, e api.Errno) (string, api.Fault) {
	ahead, behind, _ := strings.Cut(lines(s), "|")
	line := ahead[strings.LastIndex(ahead, "\n")+1:]
	return ahead + behind, api.Fault{Err: e, At: len(ahead), Line: 1 + strings.Count(ahead, "\n"), Col: 1 + utf8.RuneCountInString(line)}
}

// wrongs are texts that a format does not allow, with the error, and a | where it is told.
var wrongs = []struct {
	f    int
	text string
	want api.Errno
}{
	// The readers' own.
	{json, "|", api.ESYNTAX}, {json, "[1,|]", api.ESYNTAX}, {json, "1 |2", api.ESYNTAX}, {json, `{"a":1,;|"a":2}`, api.ETWICE}, {json, `"|` + "\x01" + `"`, api.ESYNTAX}, {json, "[|\xff]", api.EUTF}, {json, "[1,;|1e999999]", api.ERANGE}, {json, "|a", api.ESYNTAX}, {json, strings.Repeat("[", 32) + "|[", api.ELIMIT},
	{toml, "a = 1;|a = 2", api.ETWICE}, {toml, "|{}", api.ESYNTAX}, {toml, "a = |", api.ESYNTAX}, {toml, "[a];b = 1;[|a.b]", api.ECLASH}, {toml, "a = \"|\xff\"", api.EUTF}, {toml, "x = |9223372036854775808", api.ERANGE}, {toml, "[[a]];[|a]", api.ECLASH}, {toml, "a = 1 |b", api.ESYNTAX},
	{csv, `a|"`, api.ESYNTAX}, {csv, "a|\rb", api.ESYNTAX}, {csv, `"a"|b`, api.ESYNTAX}, {csv, `"a|`, api.ESYNTAX}, {csv, "a;|\xff", api.EUTF}, {csv, `a,b;1,2;x|"`, api.ESYNTAX}, {csv, "a,b;1,2;3|\r", api.ESYNTAX},
	{csv, "a,b;|1", api.EROW}, {csv, "a,b;|1,2,3", api.EROW}, {csv, "a,b;1,2;|;", api.EROW}, {csv, `"a;,",b!"1"",",2!|3!`, api.EROW}, {csv, "a;1;|,", api.EROW},
	// No rows, and no rows below the head.
	{csv, "|", api.ESYNTAX}, {csv, "|a", api.EARG}, {csv, "|a;", api.EARG}, {csv, "|a,b!", api.EARG}, {csv, `|"a;b",c`, api.EARG}, {csv, "|;", api.EARG}, {csv, "|!", api.EARG}, {csv, `|""`, api.EARG},
	// Names of the head.
	{csv, "|~;1", api.ESYNTAX}, {csv, "a,|~;1,2", api.ESYNTAX}, {csv, "a,|b/~2,c/~;1,2,3", api.ESYNTAX}, {csv, `"a,b",|~x;1,2`, api.ESYNTAX}, {csv, `"a""b;c",d,|"~";1,2,3`, api.ESYNTAX}, {csv, `"!",|~`, api.ESYNTAX}, {csv, "\u20ac,\u00e4\U0001f600,|~;1,2,3", api.ESYNTAX}, {csv, `";\u20ac\u20ac",|~`, api.ESYNTAX},
	{csv, "a,|a;1,2", api.ETWICE}, {csv, "a,b,|\"a\";1,2,3", api.ETWICE}, {csv, `"a,""x",|"a,""x"`, api.ETWICE}, {csv, ",|", api.ETWICE}, {csv, ",|;1,2", api.ETWICE}, {csv, `"",a,|`, api.ETWICE}, {csv, `"a",b,|a,b;1,2,3,4`, api.ETWICE}, {csv, `"a;;;",|"a;;;";1,2`, api.ETWICE}, {csv, "a/0,a/1,|a/0", api.ETWICE},
	// The first of the head's is told, and ahead of what is wrong in the rows.
	{csv, "a,|~,a;@,@,@", api.ESYNTAX}, {csv, "a,|a,~;@,@,@", api.ETWICE},
	// Cells.
	{csv, "a;|@", api.ESYNTAX}, {csv, "a;|@;", api.ESYNTAX}, {csv, "a,b;1,|@", api.ESYNTAX}, {csv, "a,b;|@,@", api.ESYNTAX}, {csv, "a,b;1,2;3,|@\t!@,@", api.ESYNTAX}, {csv, "a,b!1,2!|@\u20ac,4!", api.ESYNTAX}, {csv, "a,b;,|@", api.ESYNTAX}, {csv, "a,b;1,2;,|\"@\"", api.ESYNTAX},
	{csv, `a,b;"x,y",|@`, api.ESYNTAX}, {csv, `a,b;"x;y",|@`, api.ESYNTAX}, {csv, `a,b;"x!,;"",",|@`, api.ESYNTAX}, {csv, `a,b;"""",|@;1,2`, api.ESYNTAX}, {csv, `a,b;"""""",|@`, api.ESYNTAX}, {csv, `a,b;"",|@`, api.ESYNTAX}, {csv, `"a;b",";";"c;d","e,;";x,|@`, api.ESYNTAX}, {csv, `a,b,c;1,",,,",|"@;"`, api.ESYNTAX}, {csv, "a,b,c;\u20ac,\"\u00e4;\u20ac\u20ac\",|@", api.ESYNTAX}, {csv, "a,\"b\"!\"\u20ac\",|@", api.ESYNTAX},
	// Cells that clash.
	{csv, "a,a/b;1,|2", api.ECLASH}, {csv, "a/b,a;1,|2", api.ECLASH}, {csv, "b,a,a/b;1,2,;1,2,|3", api.ECLASH}, {csv, "a/0,a/b;1,|2", api.ECLASH}, {csv, "a/b,a/0;1,|2", api.ECLASH}, {csv, "a,0;1,|2", api.ECLASH}, {csv, `a,a/b;";,",|2`, api.ECLASH}, {csv, "a,b,a/0;,1,2;1,,|2", api.ECLASH},
	// A list's gap, at the first leaf of that list.
	{csv, "b,a/0,a/2;7,|1,2", api.ECLASH}, {csv, "a/0,a/2;|1,2", api.ECLASH}, {csv, "b,a/1;x,|1", api.ECLASH}, {csv, "b,a/2,a/0;7,|1,2", api.ECLASH}, {csv, "a/0,a/1;1,2;,|2", api.ECLASH}, {csv, "a/0,a/1;1,2;1,;,|2", api.ECLASH}, {csv, `a/0,a/1;"1","2";,|"2"`, api.ECLASH},
	// Rows without leaves, or whose tree is no map: at the row's first field.
	{csv, "a;|;", api.ECLASH}, {csv, "a;|!", api.ECLASH}, {csv, `a;|""`, api.ECLASH}, {csv, "a,b;1,2;|,;", api.ECLASH}, {csv, "a,b;1,2;|,", api.ECLASH}, {csv, `a,b;";",2;|"",""`, api.ECLASH}, {csv, "a,b;1,2;|,;,;", api.ECLASH}, {csv, ";|;", api.ECLASH}, {csv, "!|!", api.ECLASH},
	{csv, "0;|5", api.ECLASH}, {csv, "0,1;|5,6", api.ECLASH}, {csv, "0,1;|5,", api.ECLASH}, {csv, "a,0;1,;|,2", api.ECLASH}, {csv, `a,0;"1;,",;|"",2`, api.ECLASH}, {csv, "1;|5", api.ECLASH}, {csv, "0/a;|5", api.ECLASH},
	// The list is too deep: at the head; or a row is.
	{csv, "|b,a" + strings.Repeat("/a", 30) + ";1,2;3,4", api.ELIMIT}, {csv, "b,a" + strings.Repeat("/a", 31) + ";1,;|1,2", api.ELIMIT}, {csv, "b,a" + strings.Repeat("/a", 31) + ";1,;,|2", api.ELIMIT}, {csv, "b,a" + strings.Repeat("/0", 31) + `;";",;,|"2"`, api.ELIMIT},
	// Rows are asked in order, and each of them cell by cell, ahead of what its cells make together.
	{csv, "a,b;|,;@,", api.ECLASH}, {csv, "a,b;1,|@;,", api.ESYNTAX}, {csv, "a,a/b,c;1,2,|@", api.ESYNTAX}, {csv, "a,b;1,2;|,;3,@", api.ECLASH}, {csv, "a,a/b;1,|2;@,@", api.ECLASH}, {csv, "a,b;@,@;|1", api.EROW}, {csv, `a,~;1,2;3,4|"`, api.ESYNTAX},
}

func TestReadWrongs(t *testing.T) {
	for _, c := range wrongs {
		text, want := marked(c.text, c.want)
		unread(t, c.f, text, want)
	}
}

// TestOtherFormat: EARG of it in each call and in each place, whatever else is handed in.
func TestOtherFormat(t *testing.T) {
	at0 := api.Fault{Err: api.EARG, Line: 1, Col: 1}
	texts := []string{"", "1", "x", "\n\n", "a\n1", "a = 1", `[{"a":1}]`, "\xff", "[1,]", strings.Repeat(" ", api.MaxText+1)}
	values := append(notGood(), null, whole(5), of("a", whole(1)), list(of("a", whole(1))), stamp("x"))
	for _, f := range others {
		for _, text := range texts {
			unread(t, f, text, at0)
			for _, to := range append(formats, others...) {
				if out, notes, fault := conv.Convert(f, to, text); fault != at0 || out != "" || len(notes) > 0 {
					t.Errorf("P19.1: Convert(%d, %d, %s): %s, %+v", f, to, quoted(text), quoted(out), fault)
				}
			}
		}
		for i, from := range formats {
			// Of the other format it is told when the text was read: a reader's fault comes ahead of it.
			text := []string{"\n\n1", "\n\na = 1", "a\n1\n"}[i]
			if out, notes, fault := conv.Convert(from, f, text); fault != at0 || out != "" || len(notes) > 0 {
				t.Errorf("P19.1: Convert(%d, %d, %s): %s, %+v", from, f, quoted(text), quoted(out), fault)
			}
		}
		for _, v := range values {
			unwritten(t, f, v, api.EARG)
			refused(t, f, v, api.EARG)
		}
		v := list(of("a", whole(1)))
		unchained(t, v, []int{json, f}, api.EARG)
		unchained(t, v, []int{toml, csv, f}, api.EARG)
		unchained(t, v, []int{csv, f, json}, api.EARG)
		unchained(t, v, []int{csv, json, toml, csv, f, f}, api.EARG)
	}
}

// notGood are values that may not be, whatever the limits are.
func notGood() []api.Value {
	odd := []api.Value{
		{N: 1}, {S: "x"}, {L: []api.Value{null}}, {M: []api.Pair{{}}}, {Kind: api.Bool, N: 2}, {Kind: api.Int, S: "1"}, num("5"), num("x"), num("1."), said("\xff"), {Kind: api.Str, N: 1}, stamp(""), stamp("\n"),
		{Kind: api.List, N: 1}, {Kind: api.List, M: []api.Pair{{}}}, {Kind: api.Map, S: "x"}, {Kind: api.Map, L: []api.Value{null}}, pairs(pair("b", null), pair("a", null)), pairs(pair("a", null), pair("a", null)), of("\xff", null), {Kind: 8}, {Kind: -1}, {Kind: math.MaxInt64},
	}
	all := []api.Value{}
	for _, x := range odd {
		all = append(all, x, of("a", x), list(of("a", x)), list(of("a", list(x))), list(null, x))
	}
	return all
}

// TestNotGood: EARG in each format; but without a format nothing is asked.
func TestNotGood(t *testing.T) {
	for _, v := range notGood() {
		for _, f := range formats {
			unwritten(t, f, v, api.EARG)
			refused(t, f, v, api.EARG)
		}
		chains(t, v, nil, v, "")
	}
}

// TestWriteMay: EARG of what the format may not say, though To finds a way.
func TestWriteMay(t *testing.T) {
	for _, c := range []struct {
		f           int
		v           string
		text, notes string
	}{
		{json, `"@x"`, `"x"`, ":1"}, {json, `[{"a":"@inf"}]`, `[{"a":"inf"}]`, "/0/a:1"}, {json, `{"b":"@1","a":["@2"]}`, `{"a":["2"],"b":"1"}`, "/a/0:1 /b:1"},
		{toml, "5", "value = 5;", ":2"}, {toml, "null", "", ":2 :3"}, {toml, "[]", "value = [];", ":2"}, {toml, "[null]", `value = ["null"];`, ":2 /0:4"}, {toml, `{"a":null}`, "", "/a:3"}, {toml, `{"a":-0,"b":"@x"}`, `a = -0.0;b = "x";`, "/a:5 /b:1"}, {toml, `[{"a":1},{"a":null}]`, "[[value]];a = 1;;[[value]];", ":2 /1/a:3"}, {toml, "-0", "value = -0.0;", ":2 :5"},
		{toml, `{"a":` + strings.Repeat("9", 398) + `}`, "a = " + strings.Repeat("9", 398) + ".0;", "/a:5"}, {toml, `{"a":` + strings.Repeat("9", 399) + `}`, `a = "` + strings.Repeat("9", 399) + `";`, "/a:6"},
		{csv, "5", "value!5!", ":7 :2"}, {csv, "null", "value!null!", ":7 :2"}, {csv, `"5"`, "value!'5!", ":7 :2"}, {csv, `"@x"`, "value!@x!", ":7 :2"}, {csv, "[]", "value!null!", ":7 :8"}, {csv, "{}", "value!null!", ":7 :8"}, {csv, "[{}]", "value!null!", "/0:8"}, {csv, `{"a":1,"b":{}}`, "a,b!1,{}!", ":7"}, {csv, `[1,{},{"a":[2,3]}]`, "a/0,a/1,value!,,1!,,null!2,3,!", "/0:2 /1:8"}, {csv, `[[]]`, "value![]!", "/0:2"}, {csv, `{"value":null}`, "value!null!", ":7"},
	} {
		unwritten(t, c.f, read(t, c.v), api.EARG)
		becomes(t, c.f, read(t, c.v), lines(c.text), c.notes)
	}
}

// TestConvert: each pair of formats.
func TestConvert(t *testing.T) {
	for _, c := range []struct {
		from, to          int
		text, want, notes string
	}{
		{json, json, " [ 1 , 2.50 ] ", "[1,2.50]", ""}, {json, json, `{"b":null,"a":"\u0061"}`, `{"a":"a","b":null}`, ""},
		{json, toml, `{"a":[{"b":1}]}`, "[[a]];b = 1;", ""}, {json, toml, "[null]", `value = ["null"];`, ":2 /0:4"}, {json, toml, `{"a":{"b":null,"c":-0}}`, "[a];c = -0.0;", "/a/b:3 /a/c:5"}, {json, toml, `[{"a":1,"b":"x"},{"a":2,"b":"y"}]`, `[[value]];a = 1;b = "x";;[[value]];a = 2;b = "y";`, ":2"},
		{json, csv, `[{"a":1,"b":"x"},{"a":2,"b":"y"}]`, "a,b!1,x!2,y!", ""}, {json, csv, "5", "value!5!", ":7 :2"}, {json, csv, `{"a":{"b":1},"c":[true,null]}`, "a/b,c/0,c/1!1,true,null!", ":7"}, {json, csv, "[[],{}]", "value![]!null!", "/0:2 /1:8"}, {json, csv, `[{"a":""}]`, "a!'!", ""},
		{toml, json, "a.b=1", `{"a":{"b":1}}`, ""}, {toml, json, "[a];b = 1979-05-27", `{"a":{"b":"1979-05-27"}}`, "/a/b:1"}, {toml, json, "", "{}", ""}, {toml, json, "x = inf;y = 1e5", `{"x":"inf","y":1e5}`, "/x:1"},
		{toml, toml, "a.b = 0x1F # x;'c' = [ 1, 2, ]", "c = [1, 2];;[a];b = 31;", ""}, {toml, toml, "x = +inf;t = 12:00:00", "t = 12:00:00;x = +inf;", ""},
		{toml, csv, "x = inf", "x!@inf!", ":7"}, {toml, csv, "", "value!null!", ":7 :8"}, {toml, csv, "[[value]];a = 1;[[value]];a = 2", "value/0/a,value/1/a!1,2!", ":7"}, {toml, csv, "a.b = 'x';c = []", "a/b,c!x,[]!", ":7"},
		{csv, json, "a,b/0;1,x;", `[{"a":1,"b":["x"]}]`, ""}, {csv, json, "a;@x;'@x", `[{"a":"x"},{"a":"@x"}]`, "/0/a:1"}, {csv, json, "b,a;1,;,2", `[{"b":1},{"a":2}]`, ""},
		{csv, toml, "a;null", "[[value]];", ":2 /0/a:3"}, {csv, toml, "a,b;1,@inf;-0,@x", `[[value]];a = 1;b = inf;;[[value]];a = -0.0;b = "x";`, ":2 /1/a:5 /1/b:1"}, {csv, toml, "a/0,a/1;null,[]", `[[value]];a = ["null", []];`, ":2 /0/a/0:4"},
		{csv, csv, "b,a;1,2;", "a,b!2,1!", ""}, {csv, csv, `"a";"'x"`, "a!x!", ""}, {csv, csv, "a,b;1,", "a!1!", ""}, {csv, csv, "a;5;'5;@5", "a!5!'5!@5!", ""},
	} {
		converts(t, c.from, c.to, lines(c.text), lines(c.want), c.notes)
	}
}

// TestConvertRefused: To's error is told at 0, wherever it comes from.
func TestConvertRefused(t *testing.T) {
	columns, rows := []string{}, "a"
	for i := range api.MaxCols + 1 {
		columns = append(columns, fmt.Sprintf("\nk%d = 1", i))
	}
	rows += strings.Repeat("\n1", api.MaxRows)
	limit := api.Fault{Err: api.ELIMIT, Line: 1, Col: 1}
	for _, c := range []struct {
		from, to int
		text     string
		want     api.Fault
	}{
		{json, toml, "\n" + strings.Repeat("[", 32) + strings.Repeat("]", 32), limit}, {json, csv, "\n" + strings.Repeat("[", 32) + strings.Repeat("]", 32), limit}, {json, csv, "\n\n" + strings.Repeat(`{"a":`, 31) + "1" + strings.Repeat("}", 31), limit},
		{toml, csv, strings.Join(columns, ""), limit}, {toml, csv, strings.Join(columns[1:], ""), api.Fault{}}, {toml, json, strings.Join(columns, ""), api.Fault{}}, {json, csv, "\n[" + strings.Repeat("1,", api.MaxRows) + "1]", limit}, {json, csv, "\n[" + strings.Repeat("1,", api.MaxRows-1) + "1]", api.Fault{}},
		{csv, toml, rows, api.Fault{}}, {csv, json, "\n" + strings.Repeat(strings.Repeat("\x01", api.MaxStr)+"\n", 2), api.Fault{}}, {csv, json, "\n" + strings.Repeat(strings.Repeat("\x01", api.MaxStr)+"\n", 3), limit}, {csv, csv, "\n" + strings.Repeat(strings.Repeat("\x01", api.MaxStr)+"\n", 3), api.Fault{}}, {csv, toml, "\n" + strings.Repeat(strings.Repeat("\x01", api.MaxStr)+"\n", 3), limit},
	} {
		out, notes, fault := conv.Convert(c.from, c.to, c.text)
		if fault != c.want || fault.Err != api.OK && (out != "" || len(notes) > 0) {
			t.Errorf("P19.1: Convert(%d, %d, %s): %s, %s, %+v, want %+v", c.from, c.to, quoted(c.text), quoted(out), notesText(notes), fault, c.want)
		}
	}
}

// chained are values of JSON with formats, what comes of them, and the notes.
var chained = []struct {
	v           string
	l           []int
	want, notes string
}{
	// No format at all.
	{"[null]", nil, "[null]", ""}, {"5", nil, "5", ""}, {`"@x"`, nil, `"@x"`, ""}, {"{}", []int{}, "{}", ""},
	// What was laid around it is taken off.
	{"5", []int{2}, "5", ""}, {"5", []int{3}, "5", ""}, {"null", []int{3}, "null", ""}, {"[]", []int{2}, "[]", ""}, {"[1,[2]]", []int{2}, "[1,[2]]", ""}, {`[{"a":1}]`, []int{2}, `[{"a":1}]`, ""}, {`{"a":1}`, []int{3}, `{"a":1}`, ""}, {`"@2020-01-01"`, []int{2, 3, 2}, `"@2020-01-01"`, ""}, {"5", []int{2, 3, 1}, "5", ""}, {`"x"`, []int{3, 2, 3, 2}, `"x"`, ""}, {"true", []int{3, 3, 3}, "true", ""},
	{`{"value":5}`, []int{2, 3}, `{"value":5}`, ""}, {`{"value":5}`, []int{3}, `{"value":5}`, ""}, {`[{"value":5}]`, []int{3, 2}, `[{"value":5}]`, ""}, {`[{"value":5}]`, []int{2, 2}, `[{"value":5}]`, ""}, {`{"value":{"value":[{"value":1}]}}`, []int{3, 2, 3}, `{"value":{"value":[{"value":1}]}}`, ""}, {`[[{"value":1}]]`, []int{2}, `[[{"value":1}]]`, ""},
	// But not where there is more or less than that.
	{"null", []int{2}, "{}", ":2 :3"}, {"null", []int{2, 2}, "{}", ":2 :3"}, {"null", []int{3, 2}, "{}", ":2 :3"}, {"null", []int{2, 3}, `{"value":null}`, ":2 :3 :8"}, {"[]", []int{3}, `{"value":null}`, ":8"}, {"{}", []int{3}, `{"value":null}`, ":8"}, {"[]", []int{3, 2}, "{}", ":8 /value:3"}, {"{}", []int{3, 3}, `{"value":null}`, ":8"}, {"{}", []int{2, 1}, "{}", ""},
	// A note of 2 below the root is told.
	{"[5]", []int{3}, `[{"value":5}]`, "/0:2"}, {"[1,2]", []int{3}, `[{"value":1},{"value":2}]`, "/0:2 /1:2"}, {"[1]", []int{2, 3}, `[{"value":1}]`, "/0:2"}, {"[[]]", []int{3}, `[{"value":[]}]`, "/0:2"}, {"[null]", []int{3}, `[{"value":null}]`, "/0:2"}, {"[{}]", []int{3}, `[{"value":null}]`, "/0:8"}, {"[5]", []int{3, 3, 1}, `[{"value":5}]`, "/0:2"},
	// What else is altered at the root is told, beside what was laid around it.
	{"-0", []int{2}, "-0.0", ":5"}, {"-0", []int{2, 2}, "-0.0", ":5"}, {"-0", []int{3, 2}, "-0.0", ":5"}, {`"@x"`, []int{2}, `"x"`, ":1"}, {`"@x"`, []int{3}, `"@x"`, ""}, {`"@x"`, []int{3, 1}, `"x"`, ":1"}, {`"@x"`, []int{1, 2, 3}, `"x"`, ":1"}, {"99999999999999999999", []int{3, 1, 2}, "99999999999999999999.0", ":5"},
	// Below the root of what was wrapped.
	{"[null]", []int{2}, `["null"]`, "/0:4"}, {`[{"a":null}]`, []int{2}, `[{}]`, "/0/a:3"}, {`[-0,"@x",{"value":null}]`, []int{2}, `[-0.0,"x",{}]`, "/0:5 /1:1 /2/value:3"},
	// Notes one behind the other.
	{`[{"a":null,"s":"@x"}]`, []int{1, 2}, `[{"s":"x"}]`, "/0/s:1 /0/a:3"}, {`[{"a":null,"s":"@x"}]`, []int{2, 1}, `[{"s":"x"}]`, "/0/a:3 /0/s:1"}, {"[1,{}]", []int{3, 2, 3}, `[{"value":1},{"value":null}]`, "/0:2 /1:8 /1/value:3 /1:8"}, {`{"a":null}`, []int{2, 3, 2, 3}, `{"value":null}`, "/a:3 :8 /value:3 :8"}, {`[null,"@x",-0]`, []int{1, 2, 3, 1}, `[{"value":"null"},{"value":"x"},{"value":-0.0}]`, "/1:1 /0:4 /2:5 /0:2 /1:2 /2:2"},
	{`{"b":"@x","a":[null,"@inf"]}`, []int{2, 1, 3}, `{"a":["null","inf"],"b":"x"}`, "/a/0:4 /b:1 /a/1:1"},
}

func TestChain(t *testing.T) {
	for _, c := range chained {
		chains(t, read(t, c.v), c.l, read(t, c.want), c.notes)
	}
}

// TestChainRefused: what a format cannot take, be it the first one or a later one.
func TestChainRefused(t *testing.T) {
	deep, many := whole(1), list()
	for range api.MaxDepth - 1 {
		deep = list(deep)
	}
	for range api.MaxRows + 1 {
		many.L = append(many.L, of("a", whole(1)))
	}
	long := of("a", said(strings.Repeat("\x01", api.MaxStr)))
	raw := list(long, long)
	chains(t, raw, []int{json, toml, csv}, raw, "")
	// Three are too long with their escapes, which CSV has not.
	raw = list(long, long, long)
	for _, c := range []struct {
		v    api.Value
		ok   []int
		f    int
		want api.Errno
	}{
		{deep, []int{json, json}, toml, api.ELIMIT}, {deep, []int{json}, csv, api.ELIMIT}, {many, []int{json, json}, csv, api.ELIMIT}, {many, []int{toml, json}, csv, api.ELIMIT}, {raw, []int{csv}, json, api.ELIMIT}, {raw, []int{csv, csv}, toml, api.ELIMIT}, {many, []int{json}, 0, api.EARG},
	} {
		for i := range c.ok {
			chains(t, c.v, c.ok[:i+1], c.v, "")
		}
		refused(t, c.f, c.v, c.want)
		unchained(t, c.v, append(c.ok, c.f), c.want)
		unchained(t, c.v, append(c.ok, c.f, json), c.want)
		unchained(t, c.v, append(c.ok, c.f, 99), c.want)
	}
	// What is laid around the root alone is taken off, so that it does not add up; what is laid around its
	// elements stays, and leaves no room for more.
	less := deep.L[0]
	chains(t, less, []int{toml, toml, json, toml}, less, "")
	laid := list(of("value", less.L[0]))
	chains(t, less, []int{csv, csv, json}, laid, "/0:2")
	unchained(t, less, []int{csv, toml}, api.ELIMIT)
}

// everyChain are all chains of up to so many formats.
func everyChain(most int) [][]int {
	all := [][]int{{}}
	for begin := 0; most > 0; most-- {
		end := len(all)
		for _, l := range all[begin:end] {
			for _, f := range formats {
				all = append(all, append(append([]int{}, l...), f))
			}
		}
		begin = end
	}
	return all
}

// commons are values that all formats can say.
var commons = []string{
	`[{"a":1}]`, `[{"value":5}]`, `[{"":""}]`, `[{"a":"null","b":true},{"a":"","b":-9223372036854775808}]`, `[{"a":1,"b":"x"},{"a":false,"b":"5"}]`, `[{"0":1,"/":"'","a/b":"@x","~":"[]"}]`, `[{"a b":" ","\n":"\r\n","\u20ac":"\u0000"}]`, `[{"value":"2020-01-01"},{"value":"inf"},{"value":",\"\""}]`,
}

// TestCommon: through each chain of up to three formats, without notes, as it is.
func TestCommon(t *testing.T) {
	all := everyChain(3)
	if len(all) != 1+3+9+27 {
		t.Errorf("%d chains", len(all))
	}
	for _, s := range commons {
		v, _ := jread.Parse(s)
		if !loss.Common(v) {
			t.Errorf("%s is not Common", s)
		}
		for _, l := range all {
			chains(t, v, l, v, "")
		}
	}
}

// TestThereAndBack: what a format says of a value is converted to each other one that can say it, and back.
func TestThereAndBack(t *testing.T) {
	for _, c := range written {
		v := read(t, c.v)
		for _, from := range formats {
			for _, to := range formats {
				if !loss.May(from, v) || !loss.May(to, v) {
					continue
				}
				text, _ := conv.Write(from, v)
				want, _ := conv.Write(to, v)
				converts(t, from, to, text, want, "")
				converts(t, to, from, want, text, "")
				chains(t, v, []int{from, to}, v, "")
			}
		}
	}
}
