package tread_test

import (
	"strings"
	"testing"

	"dragoman/api"
	"dragoman/tread"
	"dragoman/value"
)

// dots is a key of so many parts.
func dots(n int) string { return strings.TrimSuffix(strings.Repeat("a.", n), ".") }

// size tells that a text has just so many nodes, and is just so deep.
func size(t *testing.T, text string, nodes, depth int) {
	t.Helper()
	v, fault := tread.Parse(text)
	if fault != (api.Fault{}) || !value.Good(v) || nodes > 0 && value.Size(v) != nodes || depth > 0 && value.Deep(v) != depth {
		t.Errorf("P11.2: Parse(%s): %+v, %d nodes, %d deep, want %d and %d", short(text), fault, value.Size(v), value.Deep(v), nodes, depth)
	}
}

// A place in which a value may stand, and how deep it is there.
type spot struct {
	open, shut string
	depth      int
}

// spots are places of each depth, by lists, by inline tables, by dotted keys, by headers, and by all of them.
func spots(depth int) []spot {
	out := []spot{
		{"a = " + strings.Repeat("[", depth-2), strings.Repeat("]", depth-2), depth},
		{"a = " + strings.Repeat("[\n", depth-2), strings.Repeat(",]", depth-2), depth},
		{"a = " + strings.Repeat("{a = ", depth-2), strings.Repeat("}", depth-2), depth},
		{dots(depth-1) + " = ", "", depth},
		{strings.Repeat("'' . ", depth-2) + "a = ", "", depth},
	}
	if depth > 2 {
		out = append(out, spot{"[" + dots(depth-2) + "]\nb = ", "", depth}, spot{"[t]\n" + dots(depth-2) + " = ", "", depth}, spot{"[t]\na = " + strings.Repeat("[", depth-3), strings.Repeat("]", depth-3), depth}, spot{"a = {" + dots(depth-2) + " = ", "}", depth})
	}
	if depth > 3 {
		out = append(out, spot{"[[" + dots(depth-3) + "]]\nb = ", "", depth}, spot{"[[t]]\n" + dots(depth-3) + " = ", "", depth}, spot{"[[t]]\n[[t]]\na = " + strings.Repeat("{b=", depth-4), strings.Repeat("}", depth-4), depth})
	}
	if depth > 4 {
		half := (depth - 3) / 2
		out = append(out, spot{"[x." + dots(half) + "]\n" + dots(depth-2-half) + " = ", "", depth}, spot{"a = " + strings.Repeat("[{b = ", half) + strings.Repeat("[", depth-2-2*half), strings.Repeat("]", depth-2-2*half) + strings.Repeat("}]", half), depth}, spot{"[[t]]\n[t." + dots(depth-4) + "]\nb = ", "", depth}, spot{"[t.t]\n[t]\n" + dots(depth-2) + " = ", "", depth})
	}
	return out
}

// TestMostDepth: values just MaxDepth deep, and one deeper: at the value's first byte.
func TestMostDepth(t *testing.T) {
	for depth := 2; depth <= api.MaxDepth+1; depth++ {
		for _, s := range spots(depth) {
			for _, v := range []string{"1", "-0.5", "'x'", "true", "[]", "{}", "1979-05-27", "inf", "'''\n'''"} {
				text := s.open + v + s.shut
				if depth <= api.MaxDepth {
					size(t, text, 0, depth)
					continue
				}
				refuses(t, text, len(s.open), api.ELIMIT)
				refuses(t, s.open+v, len(s.open), api.ELIMIT)
				refuses(t, s.open+v+" x", len(s.open), api.ELIMIT)
			}
			if depth <= api.MaxDepth {
				continue
			}
			// What begins no value is none too deep; a string that is wrong further on has begun.
			for _, none := range []string{"", ",", "=", "\x00", "tru", "01"} {
				refuses(t, s.open+none, len(s.open), api.ESYNTAX)
			}
			refuses(t, s.open+"99999999999999999999", len(s.open), api.ERANGE)
			for _, begun := range []string{"'x", `"\q"`, "[1 2]", "[", "{", "{x", "[[[", "{x = 1, x = 2}"} {
				refuses(t, s.open+begun, len(s.open), api.ELIMIT)
			}
		}
	}
	// Lists and inline tables at the limit hold nothing, and those beside each other do not add up.
	deep := strings.Repeat("[", api.MaxDepth-2)
	shut := strings.Repeat("]", api.MaxDepth-2)
	size(t, "a = "+deep+"[],[],{},{}"+shut, 0, api.MaxDepth)
	refuses(t, "a = "+deep+"[],[1]"+shut, len("a = "+deep+"[],["), api.ELIMIT)
	refuses(t, "a = "+deep+"{},{b=1}"+shut, len("a = "+deep+"{},{b="), api.ELIMIT)
	refuses(t, "a = "+deep+"{b.c=1}"+shut, len("a = "+deep+"{b.c="), api.ELIMIT)
	size(t, "a = ["+deep+shut+","+deep+shut+"]", 0, api.MaxDepth)
	for _, n := range []int{33, 40, 9000} {
		refuses(t, "a = "+strings.Repeat("[", n), 35, api.ELIMIT)
		refuses(t, "a = "+strings.Repeat("{a=", n), 4+3*31, api.ELIMIT)
		refuses(t, dots(n)+" = 1", len(dots(n)+" = "), api.ELIMIT)
	}
}

// TestMostHeaderDepth: headers' tables just MaxDepth deep, and one deeper: at the key.
func TestMostHeaderDepth(t *testing.T) {
	for n := 1; n <= api.MaxDepth+2; n++ {
		for _, c := range []struct {
			ahead, open, key, shut string
			depth                  int
		}{
			{"", "[", dots(n), "]", n + 1},
			{"", "[[", dots(n), "]]", n + 2},
			{"[" + dots(min(n, 20)) + "]\n", "[", dots(n) + ".b", "]", n + 2},
			{"[" + dots(min(n, 20)) + "]\nx = 1\n", "[[ ", dots(n) + ".b", " ]]", n + 3},
			{"[[a]]\n", "[", dots(n) + ".b", "]", n + 3},
			{"[[a]]\n[[a]]\n", "[[", dots(n) + ".b", "]]", n + 4},
			{"a.x = 1\n", "[\t", dots(n) + ".b", "\t]", n + 2},
			{"[[a]]\n[[a.a]]\n", "[", dots(n+1) + ".b", "]", n + 5},
		} {
			text := c.ahead + c.open + c.key + c.shut
			if c.depth <= api.MaxDepth {
				size(t, text, 0, c.depth)
			} else {
				refuses(t, text, len(c.ahead+c.open), api.ELIMIT)
				refuses(t, text+"\nx = 1", len(c.ahead+c.open), api.ELIMIT)
				// The line is read ahead of that.
				refuses(t, text+" x", len(text)+1, api.ESYNTAX)
			}
		}
	}
	// A list and its table are two, at each part.
	rows := ""
	for n := 1; n <= 15; n++ {
		rows += "[[" + dots(n) + "]]\n"
		size(t, rows, 1+2*n, 1+2*n)
	}
	size(t, rows+"["+dots(15)+".b]", 32, api.MaxDepth)
	size(t, rows+"b = 1\nc = []\nd = {}", 34, api.MaxDepth)
	refuses(t, rows+"[["+dots(16)+"]]", len(rows)+2, api.ELIMIT)
	refuses(t, rows+"b = [1]", len(rows)+5, api.ELIMIT)
	refuses(t, rows+"b.c = 1", len(rows)+6, api.ELIMIT)
	refuses(t, rows+"["+dots(15)+".b.c]", len(rows)+1, api.ELIMIT)
	refuses(t, rows+"["+dots(15)+".b]\nc = 1", len(rows+"["+dots(15)+".b]\nc = "), api.ELIMIT)
	// The first part that may not be: a name that clashes, or the table that is too deep.
	refuses(t, "a.a = 1\n["+dots(40)+"]", 9, api.ECLASH)
	refuses(t, "a = {}\n["+dots(40)+"]", 8, api.ECLASH)
	refuses(t, "a.b = 1\n["+dots(40)+"]", 9, api.ELIMIT)
}

// full is a text of just so many nodes, the whole map with them, that ends with a line.
func full(nodes int) string {
	return "f = [" + strings.Repeat("1,", nodes-2) + "]\n"
}

// counted are texts, and the places of their nodes in the order in which they are counted.
var counted = []struct {
	text   string
	places []int
}{
	// Values.
	{"b = 1", []int{4}}, {"b = 'x'", []int{4}}, {"b = []", []int{4}}, {"b = {}", []int{4}}, {"b = 1\nc = 2", []int{4, 10}}, {"b = [1, [2], {}]", []int{4, 5, 8, 9, 13}}, {"b = {c = 1, d = [2]}", []int{4, 9, 16, 17}}, {"b = [\n1, # x\n2,\n]", []int{4, 6, 13}},
	// What dotted keys make, behind the value.
	{"b.c = 1", []int{6, 0}}, {"b.c.d = 1", []int{8, 0, 0}}, {" b . c.d = [1, 2]", []int{11, 12, 15, 1, 1}}, {"b.c = 1\nb.d = 2", []int{6, 0, 14}}, {"b.c.d = 1\nb.e.f = 2", []int{8, 0, 0, 18, 10}}, {"b.c = 1\nd.c = 2", []int{6, 0, 14, 8}}, {"b = {c.d = 1, c.e = [2]}", []int{4, 11, 5, 20, 21}}, {"b.c = {d.e.f = {}}", []int{6, 15, 7, 7, 0}}, {"b = [{c.d = 1}, 2]", []int{4, 5, 12, 6, 16}},
	// What headers make.
	{"[b]", []int{1}}, {"[ b ]", []int{2}}, {"[b.c.d]", []int{1, 1, 1}}, {"[b.c]\n[b]", []int{1, 1}}, {"[b.c]\n[b]\n[b.d]", []int{1, 1, 11}}, {"[b]\n[b.c]\n[b.c.d]", []int{1, 5, 11}}, {"[b]\nc = 1\nd.e = 2", []int{1, 8, 16, 10}}, {"b.c = 1\n[b.d]", []int{6, 0, 9}},
	// Lists of headers' tables, each of which is one node more.
	{"[[b]]", []int{2, 2}}, {"[[b.c]]", []int{2, 2, 2}}, {"[[ b]]\n[[b ]]", []int{3, 3, 9}}, {"[[b]]\n[[b]]\n[[b]]", []int{2, 2, 8, 14}}, {"[[b]]\n[b.c]\n[[b]]\n[b.c]", []int{2, 2, 7, 14, 19}}, {"[[b]]\n[[b.c]]\nd.e = 1", []int{2, 2, 8, 8, 20, 14}}, {"[[b.c]]\n[b]\nd = {}", []int{2, 2, 2, 16}},
}

// TestMostNodes: just MaxNodes nodes, and one more.
func TestMostNodes(t *testing.T) {
	size(t, full(api.MaxNodes), api.MaxNodes, 3)
	for _, c := range counted {
		size(t, c.text, 1+len(c.places), 0)
		for room := range c.places {
			ahead := full(api.MaxNodes - room)
			refuses(t, ahead+c.text, len(ahead)+c.places[room], api.ELIMIT)
			// A later line does not alter that.
			refuses(t, ahead+c.text+"\n=", len(ahead)+c.places[room], api.ELIMIT)
		}
		for more := range 2 {
			size(t, full(api.MaxNodes-len(c.places)-more)+c.text, api.MaxNodes-more, 0)
		}
	}
}

// TestFullNodes: with MaxNodes nodes, what comes ahead of the one that is too many.
func TestFullNodes(t *testing.T) {
	ahead := full(api.MaxNodes)
	at := len(ahead)
	for _, none := range []string{"", "\n", "tru", ",", "]"} {
		refuses(t, ahead+"b = "+none, at+4, api.ESYNTAX)
	}
	refuses(t, ahead+"b = 99999999999999999999", at+4, api.ERANGE)
	refuses(t, ahead+"b = 'x", at+4, api.ELIMIT)
	refuses(t, ahead+"b = [1 2]", at+4, api.ELIMIT)
	refuses(t, ahead+"b", at+1, api.ESYNTAX)
	refuses(t, ahead+"b x", at+2, api.ESYNTAX)
	// A pair's value is counted ahead of its name, a header's line is read ahead of its tables.
	refuses(t, ahead+"f = 1", at+4, api.ELIMIT)
	refuses(t, ahead+"f.x = 1", at+6, api.ELIMIT)
	refuses(t, ahead+"b = 1 x", at+4, api.ELIMIT)
	refuses(t, ahead+"[b] x", at+4, api.ESYNTAX)
	refuses(t, ahead+"[b", at+2, api.ESYNTAX)
	refuses(t, ahead+"[f]", at+1, api.ECLASH)
	refuses(t, ahead+"[f.x]", at+1, api.ECLASH)
	refuses(t, ahead+"[[f]]", at+2, api.ECLASH)
	// With room for the value alone: its name comes behind it, and ahead of what its key makes.
	ahead = full(api.MaxNodes - 1)
	at = len(ahead)
	refuses(t, ahead+"f = 1", at, api.ETWICE)
	refuses(t, ahead+"f.x = 1", at, api.ECLASH)
	refuses(t, ahead+"f.x.y = 1 x", at, api.ECLASH)
	refuses(t, ahead+"b.x = 1 x", at, api.ELIMIT)
	refuses(t, ahead+"b = 1 x", at+6, api.ESYNTAX)
	// What is there already is not counted again.
	ahead = "b.c = 1\n" + full(api.MaxNodes-3)
	size(t, ahead+"b.d = 1", api.MaxNodes, 0)
	size(t, ahead+"[b.d]", api.MaxNodes, 0)
	refuses(t, ahead+"b.d.e = 1", len(ahead), api.ELIMIT)
	refuses(t, ahead+"[b.d.e]", len(ahead)+1, api.ELIMIT)
	refuses(t, ahead+"[b]", len(ahead)+1, api.ETWICE)
	ahead = full(api.MaxNodes-2) + "[b.c]\n"
	size(t, ahead+"[b]", api.MaxNodes, 0)
	refuses(t, ahead+"[b]\n[b]", len(ahead)+5, api.ETWICE)
	refuses(t, ahead+"[b]\nd = 1", len(ahead)+8, api.ELIMIT)
	// Headers alone.
	rows := strings.Repeat("[[a]]\n", api.MaxNodes-2)
	size(t, rows, api.MaxNodes, 3)
	refuses(t, rows+"[[a]]\n", len(rows)+2, api.ELIMIT)
	refuses(t, rows+"[a.b]\n", len(rows)+1, api.ELIMIT)
	refuses(t, rows+"[a]\n", len(rows)+1, api.ECLASH)
	refuses(t, rows+"b = 1", len(rows)+4, api.ELIMIT)
}

// TestMostName: a key's part of just MaxStr bytes, and of one more, wherever it stands and however it is spelt.
func TestMostName(t *testing.T) {
	for _, c := range []struct{ head, one, tail string }{
		{"", "k", ""}, {"'", "k", "'"}, {`"`, "k", `"`}, {`"`, `\u006b`, `"`}, {`"`, `\t`, `"`}, {"'", " ", "'"},
	} {
		most := c.head + strings.Repeat(c.one, api.MaxStr) + c.tail
		more := c.head + strings.Repeat(c.one, api.MaxStr+1) + c.tail
		for _, around := range [][2]string{
			{"|", " = 1"}, {"|", ".a = 1"}, {"|a.", " = 1"}, {"|a.", " . b = 1"}, {" \t|", "=1"}, {"[|", "]"}, {"[ |", ".a]"}, {"[|a.", " ]"}, {"[[|", "]]"}, {"[[ |a.", ".b]]"}, {"a = {|", " = 1}"}, {"a = {b = 1, |c.", " = 1}"}, {"a = [[], {|", ".a = 1}]"}, {"x = 1\n[t]\n|", " = 1"},
		} {
			head := strings.Replace(around[0], "|", "", 1)
			key := strings.Index(around[0], "|")
			size(t, head+most+around[1], 0, 0)
			refuses(t, head+more+around[1], key, api.ELIMIT)
			// As it is read: ahead of all that stands behind the key.
			refuses(t, head+more+around[1]+" x", key, api.ELIMIT)
			refuses(t, head+more+" ?", key, api.ELIMIT)
			refuses(t, head+more, key, api.ELIMIT)
		}
	}
	// Bytes, not letters.
	two := strings.Repeat("\u00e9", api.MaxStr/2)
	size(t, "'"+two+"' = 1", 2, 2)
	refuses(t, "'"+two+"k' = 1", 0, api.ELIMIT)
	refuses(t, "["+strings.Repeat("a.", 10)+"'"+two+"\u00e9']", 1, api.ELIMIT)
	// Each part may have that many, however long the key is.
	k := strings.Repeat("k", api.MaxStr)
	size(t, k+"."+k+"."+k+" = 1", 4, 4)
	refuses(t, k+"."+k+".k"+k+" = 1", 0, api.ELIMIT)
	// Ahead of its value's faults and of its name's.
	refuses(t, "k"+k+" = tru", 0, api.ELIMIT)
	refuses(t, "a = 1\na.k"+k+" = 1", 6, api.ELIMIT)
	refuses(t, "[a]\n[a.k"+k+"] x", 5, api.ELIMIT)
	refuses(t, k+" = 1\n"+k+" = 2", len(k+" = 1\n"), api.ETWICE)
}

// TestMostString: a string of just MaxStr bytes, and of one more: Plain's fault, at the value's beginning.
func TestMostString(t *testing.T) {
	most := strings.Repeat("x", api.MaxStr)
	for _, around := range [][2]string{{"a = ", ""}, {"a = [1,\n", "]"}, {"a = {b = ", "}"}, {"[[t]]\na.b = ", " # x"}} {
		for _, quote := range []string{"'", `"`, "'''", `"""`} {
			size(t, around[0]+quote+most+quote+around[1], 0, 0)
			refuses(t, around[0]+quote+most+"x"+quote+around[1], len(around[0]), api.ELIMIT)
			refuses(t, around[0]+quote+most+"x", len(around[0]+quote+most+"x"), api.ESYNTAX)
		}
	}
}
