package tread_test

import (
	"strings"
	"testing"

	"dragoman/api"
)

// The ways in which a name may be asked for.
const (
	pairPart = iota
	pairLast
	headerPart
	headerLast
	listPart
	listLast
)

// The lines that ask so for the name n of the table t, each in what stands ahead of its key and the rest.
var asks = [...][2]string{
	pairPart:   {"", "n.q = 5"},
	pairLast:   {"", "n = 5"},
	headerPart: {"[", "t.n.q]"},
	headerLast: {"[", "t.n]"},
	listPart:   {"[[", "t.n.q]]"},
	listLast:   {"[[", "t.n]]"},
}

// taken are the ways in which the name n of the table t may be taken, each with what each ask
// answers then: in JSON the table t, if the name may be there, or an error.
var taken = []struct {
	how, text string
	want      [6]any
}{
	{"free", "[t]\n", [6]any{
		`{"n":{"q":5}}`, `{"n":5}`, `{"n":{"q":{}}}`, `{"n":{}}`, `{"n":{"q":[{}]}}`, `{"n":[{}]}`}},
	{"free beside others", "[t]\nm = 1\nnn.n = 2\n", [6]any{
		`{"m":1,"n":{"q":5},"nn":{"n":2}}`, `{"m":1,"n":5,"nn":{"n":2}}`, `{"m":1,"n":{"q":{}},"nn":{"n":2}}`, `{"m":1,"n":{},"nn":{"n":2}}`, `{"m":1,"n":{"q":[{}]},"nn":{"n":2}}`, `{"m":1,"n":[{}],"nn":{"n":2}}`}},
	{"a value", "[t]\nn = 1\n", [6]any{
		api.ECLASH, api.ETWICE, api.ECLASH, api.ECLASH, api.ECLASH, api.ECLASH}},
	{"a string", "[t]\nn = '{}'\n", [6]any{
		api.ECLASH, api.ETWICE, api.ECLASH, api.ECLASH, api.ECLASH, api.ECLASH}},
	{"an empty list of values", "[t]\nn = []\n", [6]any{
		api.ECLASH, api.ETWICE, api.ECLASH, api.ECLASH, api.ECLASH, api.ECLASH}},
	{"a list of inline tables", "[t]\nn = [{}, {x = 1}]\n", [6]any{
		api.ECLASH, api.ETWICE, api.ECLASH, api.ECLASH, api.ECLASH, api.ECLASH}},
	{"an empty inline table", "[t]\nn = {}\n", [6]any{
		api.ECLASH, api.ETWICE, api.ECLASH, api.ECLASH, api.ECLASH, api.ECLASH}},
	{"an inline table", "[t]\nn = {x.y = 1}\n", [6]any{
		api.ECLASH, api.ETWICE, api.ECLASH, api.ECLASH, api.ECLASH, api.ECLASH}},
	{"a table of a dotted key", "[t]\nn.x = 1\n", [6]any{
		`{"n":{"q":5,"x":1}}`, api.ETWICE, `{"n":{"q":{},"x":1}}`, api.ETWICE, `{"n":{"q":[{}],"x":1}}`, api.ECLASH}},
	{"a table of a longer dotted key", "[t]\nn.x.y = 1\n", [6]any{
		`{"n":{"q":5,"x":{"y":1}}}`, api.ETWICE, `{"n":{"q":{},"x":{"y":1}}}`, api.ETWICE, `{"n":{"q":[{}],"x":{"y":1}}}`, api.ECLASH}},
	{"a part of a header", "[t.n.x]\n[t]\n", [6]any{
		api.ECLASH, api.ETWICE, `{"n":{"q":{},"x":{}}}`, `{"n":{"x":{}}}`, `{"n":{"q":[{}],"x":{}}}`, api.ECLASH}},
	{"a part of a list's header", "[[t.n.x]]\n[t]\n", [6]any{
		api.ECLASH, api.ETWICE, `{"n":{"q":{},"x":[{}]}}`, `{"n":{"x":[{}]}}`, `{"n":{"q":[{}],"x":[{}]}}`, api.ECLASH}},
	{"opened by a header", "[t.n]\n[t]\n", [6]any{
		api.ECLASH, api.ETWICE, `{"n":{"q":{}}}`, api.ETWICE, `{"n":{"q":[{}]}}`, api.ECLASH}},
	{"opened, with something in it", "[t.n]\nx.y = 1\n[t.n.z]\n[t]\n", [6]any{
		api.ECLASH, api.ETWICE, `{"n":{"q":{},"x":{"y":1},"z":{}}}`, api.ETWICE, `{"n":{"q":[{}],"x":{"y":1},"z":{}}}`, api.ECLASH}},
	{"a part of a header, and opened later", "[t.n.x]\n[t.n]\n[t]\n", [6]any{
		api.ECLASH, api.ETWICE, `{"n":{"q":{},"x":{}}}`, api.ETWICE, `{"n":{"q":[{}],"x":{}}}`, api.ECLASH}},
	{"a list of headers' tables", "[[t.n]]\n[t]\n", [6]any{
		api.ECLASH, api.ETWICE, `{"n":[{"q":{}}]}`, api.ECLASH, `{"n":[{"q":[{}]}]}`, `{"n":[{},{}]}`}},
	{"a list of two of them", "[[t.n]]\nq = 1\n[[t.n]]\n[t]\n", [6]any{
		api.ECLASH, api.ETWICE, `{"n":[{"q":1},{"q":{}}]}`, api.ECLASH, `{"n":[{"q":1},{"q":[{}]}]}`, `{"n":[{"q":1},{},{}]}`}},
}

// TestTaken: P11.2's rules 1, 2 and 3: each way in which a name is taken, and each in which it is asked for.
func TestTaken(t *testing.T) {
	for _, way := range taken {
		for ask, line := range asks {
			for _, ahead := range []string{"", "t1 = 1\n", "[u.n]\nn = 1\n", "[[u]]\n# x\n"} {
				text := ahead + way.text + line[0] + line[1]
				key := len(ahead + way.text + line[0])
				switch want := way.want[ask].(type) {
				case api.Errno:
					refuses(t, text, key, want)
					refuses(t, text+" # x\nx = 1", key, want)
					spelt := strings.Replace(line[1], "n", `"\u006E"`, 1)
					refuses(t, text[:key]+spelt, key, want)
				case string:
					others := map[string]string{"": "", "t1 = 1\n": `,"t1":1`, "[u.n]\nn = 1\n": `,"u":{"n":{"n":1}}`, "[[u]]\n# x\n": `,"u":[{}]`}
					says(t, text, `{"t":`+want+others[ahead]+`}`)
				}
			}
		}
	}
}

// TestTakenAround: the same, where t itself is a table of a list, or further down.
func TestTakenAround(t *testing.T) {
	for _, way := range taken {
		for ask, line := range asks {
			text := way.text + line[0] + line[1]
			deeper := strings.NewReplacer("[t", "[o.t", "\nt.n", "\no.t.n").Replace(text)
			key := len(strings.NewReplacer("[t", "[o.t", "\nt.n", "\no.t.n").Replace(way.text)) + len(line[0])
			switch want := way.want[ask].(type) {
			case api.Errno:
				refuses(t, deeper, key, want)
				refuses(t, "[[o]]\n[o.t]\nn = {}\n[[o]]\n"+deeper, key+len("[[o]]\n[o.t]\nn = {}\n[[o]]\n"), want)
			case string:
				says(t, deeper, `{"o":{"t":`+want+`}}`)
				says(t, "[[o]]\n[o.t]\nn = {}\n[[o]]\n"+deeper, `{"o":[{"t":{"n":{}}},{"t":`+want+`}]}`)
			}
		}
	}
}

// TestPairNames: rule 1, in the whole map, in a table, in a list's table and in an inline table.
func TestPairNames(t *testing.T) {
	for _, c := range []struct {
		ahead, key, rest string
		err              api.Errno
	}{
		{"a = 1", "a", " = 2", api.ETWICE}, {"a = 1", "a.b", " = 2", api.ECLASH}, {"a = 1", "a.b.c", " = 2", api.ECLASH}, {"a = []", "a", " = []", api.ETWICE}, {"a = []", "a.b", " = 1", api.ECLASH}, {"a = [{}]", "a.b", " = 1", api.ECLASH}, {"a = {}", "a", " = {}", api.ETWICE}, {"a = {}", "a.b", " = 1", api.ECLASH}, {"a = {b = {}}", "a.b.c", " = 1", api.ECLASH}, {"a = {b.c = 1}", "a.b.d", " = 1", api.ECLASH}, {"a = {b.c = 1}", "a.d", " = 1", api.ECLASH},
		{"a.b = 1", "a", " = 2", api.ETWICE}, {"a.b = 1", "a", " = {}", api.ETWICE}, {"a.b = 1", "a.b", " = 2", api.ETWICE}, {"a.b = 1", "a.b.c", " = 2", api.ECLASH}, {"a.b.c = 1", "a.b", " = 2", api.ETWICE}, {"a.b.c = 1", "a.b.c", " = 2", api.ETWICE}, {"a.b.c = 1", "a.b.c.d", " = 2", api.ECLASH}, {"a.b.c = 1", "a", " = 2", api.ETWICE}, {"a.b = {}", "a.b.c", " = 1", api.ECLASH}, {"a.b = []", "a.b.c", " = 1", api.ECLASH}, {"a.b = {}", "a.b", " = 1", api.ETWICE},
		{"a = 1", "'a'", " = 2", api.ETWICE}, {"a = 1", `"\u0061"`, " = 2", api.ETWICE}, {"a = 1", `"a" . b`, "=2", api.ECLASH}, {"'' = 1", `""`, " = 2", api.ETWICE}, {"'\u20ac' = 1", `"\u20ac"`, " = 2", api.ETWICE}, {"'' = 1", "''.''", " = 2", api.ECLASH},
	} {
		for _, around := range [][3]string{{"", "\n", ""}, {"[t]\n", "\n", ""}, {"[[t]]\na.b = 1\n[[t]]\n", "\r\n # x\n\t", ""}, {"[a]\n[[a.t]]\n", "\n\n", ""}, {"t = {", ", ", "}"}, {"t = [{a.b = 1}, {", " ,\t", "}]"}, {"[t]\nt.t = {a = {", ",", "}}"}} {
			ahead := around[0] + c.ahead + around[1]
			refuses(t, ahead+c.key+c.rest+around[2], len(ahead), c.err)
			// Asked ahead of what stands behind the value, but behind the value's own faults.
			refuses(t, ahead+c.key+c.rest+" x", len(ahead), c.err)
			refuses(t, ahead+c.key+c.rest+"\r", len(ahead), c.err)
			refuses(t, ahead+c.key+c.rest, len(ahead), c.err)
			refuses(t, ahead+c.key+" = [1 2]", len(ahead+c.key+" = [1 "), api.ESYNTAX)
			refuses(t, ahead+c.key+" = tru", len(ahead+c.key+" = "), api.ESYNTAX)
			refuses(t, ahead+c.key+" = {x = 1, x = 2}", len(ahead+c.key+" = {x = 1, "), api.ETWICE)
			refuses(t, ahead+c.key+" = 99999999999999999999", len(ahead+c.key+" = "), api.ERANGE)
			refuses(t, ahead+c.key+" x", len(ahead+c.key+" "), api.ESYNTAX)
		}
	}
	// The same name in the table around, beside and below is another.
	says(t, "a = {a = {a = 1}}\n[b]\na.a.a = 1\nb = {a = 1, b = 2}\n[b.c]\na = 1", `{"a":{"a":{"a":1}},"b":{"a":{"a":{"a":1}},"b":{"a":1,"b":2},"c":{"a":1}}}`)
	// A pair of a table does not reach what the whole map has.
	says(t, "a.b = 1\n[t]\na.b = 2\n[u]\na = 3\n[[v]]\na.b = 4\n[[v]]\na.b = 5", `{"a":{"b":1},"t":{"a":{"b":2}},"u":{"a":3},"v":[{"a":{"b":4}},{"a":{"b":5}}]}`)
	// Tables that headers made, in a table that is open again.
	refuses(t, "[a.b.c.d]\n[a]\nb.c.d = 1", len("[a.b.c.d]\n[a]\n"), api.ECLASH)
	refuses(t, "[a.b.c.d]\n[a.b]\nc.e = 1", len("[a.b.c.d]\n[a.b]\n"), api.ECLASH)
	refuses(t, "[[a.b]]\n[a]\nb.c = 1", len("[[a.b]]\n[a]\n"), api.ECLASH)
	refuses(t, "[[a.b]]\n[a]\nb = []", len("[[a.b]]\n[a]\n"), api.ETWICE)
	says(t, "[a.b]\n[a]\nc.b = 1\nc.d = 2", `{"a":{"b":{},"c":{"b":1,"d":2}}}`)
	// A table of a dotted key that a header went through is one of a dotted key still.
	says(t, "[a]\nb.c = 1\n[a.b.d]\n[e]", `{"a":{"b":{"c":1,"d":{}}},"e":{}}`)
	refuses(t, "[a]\nb.c = 1\n[a.b.d]\n[a.b]", len("[a]\nb.c = 1\n[a.b.d]\n["), api.ETWICE)
	refuses(t, "[a]\nb.c.d = 1\n[a.b.c]", len("[a]\nb.c.d = 1\n["), api.ETWICE)
}

// TestHeaderNames: rules 2 and 3, where more than one name is asked for, and when they are asked for.
func TestHeaderNames(t *testing.T) {
	for _, c := range []struct {
		right, rest string
		err         api.Errno
	}{
		// The chapter's words for the whole map.
		{"[a]\n[", "a]", api.ETWICE}, {"[a]\n[b]\n[", "a]", api.ETWICE}, {"a.b = 1\n[", "a]", api.ETWICE}, {"a.b = 1\n[", "a.b]", api.ECLASH}, {"a.b.c = 1\n[", "a.b]", api.ETWICE}, {"a.b.c = 1\n[", "a.b.c]", api.ECLASH}, {"a.b.c = 1\n[", "a.b.c.d]", api.ECLASH}, {"a.b = 1\n[[", "a]]", api.ECLASH}, {"a = {}\n[", "a]", api.ECLASH}, {"a = {}\n[", "a.b]", api.ECLASH}, {"a = {}\n[[", "a]]", api.ECLASH}, {"a = {}\n[[", "a.b]]", api.ECLASH}, {"a = {b = {}}\n[", "a.b.c]", api.ECLASH}, {"a = []\n[[", "a]]", api.ECLASH}, {"a = []\n[[", "a.b]]", api.ECLASH}, {"a = [{}]\n[", "a.b]", api.ECLASH}, {"a = [{}]\n[", "a]", api.ECLASH}, {"a = 1\n[", "a]", api.ECLASH}, {"a = 1\n[", "a.b]", api.ECLASH}, {"a = 1\n[[", "a]]", api.ECLASH}, {"a = 1\n[", "a.b.c.d]", api.ECLASH},
		// Lists of headers' tables, and what stands in their last table alone.
		{"[[a]]\n[", "a]", api.ECLASH}, {"[a]\n[[", "a]]", api.ECLASH}, {"[a.b]\n[[", "a]]", api.ECLASH}, {"[[a.b]]\n[[", "a]]", api.ECLASH}, {"[[a]]\n[a.b]\n[", "a.b]", api.ETWICE}, {"[[a]]\n[a.b]\n[[a]]\n[a.b]\n[", "a.b]", api.ETWICE}, {"[[a]]\nb = 1\n[", "a.b]", api.ECLASH}, {"[[a]]\nb = 1\n[[", "a.b]]", api.ECLASH}, {"[[a]]\nb = 1\n[", "a.b.c]", api.ECLASH}, {"[[a]]\nb.c = 1\n[", "a.b]", api.ETWICE}, {"[[a]]\n[[a.b]]\n[", "a.b]", api.ECLASH}, {"[[a]]\n[a.b]\n[[", "a.b]]", api.ECLASH}, {"[[a]]\n[[a]]\nb = {}\n[", "a.b.c]", api.ECLASH}, {"[[a]]\n[[a.b]]\nc = []\n[[", "a.b.c]]", api.ECLASH}, {"[[a]]\n[a.b.c]\n[a.b]\n[", "a.b]", api.ETWICE},
		// However it is spelt, and blanks about it: at the key's first byte.
		{"[a.b]\n[", "'a'.\"b\"]", api.ETWICE}, {"[a.b]\n[ \t", "a . \"\\u0062\" ]", api.ETWICE}, {"[a]\n[[ ", "'a' ]]", api.ECLASH}, {"['']\n[", `""]`, api.ETWICE},
		// Once opened, a table is not opened again, be it made as a part first.
		{"[a.b]\n[a]\n[", "a]", api.ETWICE}, {"[a.b.c]\n[a.b]\n[a]\n[", "a.b]", api.ETWICE}, {"[a.b.c]\n[a.b]\n[a]\n[", "a.b.c]", api.ETWICE}, {"[[a.b]]\n[a]\n[", "a]", api.ETWICE}, {"[a]\n[a.b]\n[", "a]", api.ETWICE},
		// The first part that clashes, of any.
		{"a = 1\nb = {}\n[", "a.b.c]", api.ECLASH}, {"[a]\nb = 1\n[", "a.b.c]", api.ECLASH}, {"[a]\nb = [1]\n[", "a.b]", api.ECLASH}, {"[a.b]\nc = 1\n[[", "a.b.c.d]]", api.ECLASH},
	} {
		refuses(t, c.right+c.rest, len(c.right), c.err)
		refuses(t, "x = 1\n"+c.right+c.rest+" # x\n\n[a] x", len("x = 1\n")+len(c.right), c.err)
		// Asked when the line was read: what stands behind the header comes first.
		refuses(t, c.right+c.rest+" x", len(c.right+c.rest)+1, api.ESYNTAX)
		refuses(t, c.right+c.rest+"\r", len(c.right+c.rest), api.ESYNTAX)
		refuses(t, c.right+c.rest[:len(c.rest)-1], len(c.right+c.rest)-1, api.ESYNTAX)
	}
	// The names of a list's earlier tables are free in its last.
	says(t, "[[a]]\nb = 1\nc.d = 2\n[a.e]\n[[a.f]]\n[[a]]\n[a.b]\n[a.c]\n[[a.e]]\n[a.f]", `{"a":[{"b":1,"c":{"d":2},"e":{},"f":[{}]},{"b":{},"c":{},"e":[{}],"f":{}}]}`)
	// A part may be opened later, and a list may grow after others were opened.
	says(t, "[a.b.c]\n[[x]]\n[a.b]\ny = 1\n[[x]]\n[a]\nz = 2\n[[x]]", `{"a":{"b":{"c":{},"y":1},"z":2},"x":[{},{},{}]}`)
}
