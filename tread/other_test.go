package tread_test

import (
	"fmt"
	"math/rand"
	"sort"
	"strings"
	"testing"
	"unicode/utf8"

	"dragoman/api"
	"dragoman/tlex"
	"dragoman/tread"
	"dragoman/value"
)

// line is what a ledger says of one name.
type line struct {
	how   string // said, dotted, passed, opened, or rows
	depth int
	said  api.Value
	rows  int
}

// ledger keeps all names of a text in one list, each with the whole way to it: so what stands where
// is told in another way than by a tree.
type ledger struct {
	text  string
	lines map[string]*line
	names map[string][]string // those in a table, in the order in which they came
	nodes int
	bad   int
	err   api.Errno
}

// fault keeps a fault, and tells that there is one.
func (l *ledger) fault(at int, e api.Errno) bool {
	l.bad, l.err = at, e
	return true
}

// node counts one node, and tells whether that is one too many.
func (l *ledger) node(at, depth int) bool {
	l.nodes++
	return (l.nodes > api.MaxNodes || depth > api.MaxDepth) && l.fault(at, api.ELIMIT)
}

// below is the way to a name in a table.
func below(table, name string) string { return table + "/" + fmt.Sprintf("%q", name) }

// enter puts a line in, and tells where it stands.
func (l *ledger) enter(table, name string, in line) string {
	way := below(table, name)
	in.depth = l.lines[table].depth + 1
	l.lines[way] = &in
	l.names[table] = append(l.names[table], name)
	return way
}

// pairFault puts a pair in, and tells whether there is a fault.
func (l *ledger) pairFault(table string, key []string, at int, v api.Value) bool {
	for i, name := range key {
		there := l.lines[below(table, name)]
		switch last := i == len(key)-1; {
		case last && there != nil:
			return l.fault(at, api.ETWICE)
		case last:
			l.enter(table, name, line{how: "said", said: v})
		case there == nil:
			table = l.enter(table, name, line{how: "dotted"})
			if l.node(at, l.lines[table].depth) {
				return true
			}
		case there.how == "dotted":
			table = below(table, name)
		default:
			return l.fault(at, api.ECLASH)
		}
	}
	return false
}

// headerFault opens a table, and tells which, or that there is a fault.
func (l *ledger) headerFault(key []string, at int, list bool) (string, bool) {
	table := ""
	for i, name := range key {
		way := below(table, name)
		if l.lines[way] == nil {
			how := "passed"
			if list && i == len(key)-1 {
				how = "rows"
			}
			l.enter(table, name, line{how: how})
			if l.node(at, l.lines[way].depth) {
				return "", true
			}
		}
		table = way
		there := l.lines[way]
		if i == len(key)-1 {
			break
		}
		if there.how == "said" {
			return "", l.fault(at, api.ECLASH)
		}
		if there.how == "rows" {
			table = fmt.Sprintf("%s#%d", way, there.rows-1)
		}
	}
	switch how := l.lines[table].how; {
	case list && how == "rows":
		l.lines[table].rows++
		row := fmt.Sprintf("%s#%d", table, l.lines[table].rows-1)
		l.lines[row] = &line{how: "opened", depth: l.lines[table].depth + 1}
		return row, l.node(at, l.lines[row].depth)
	case !list && how == "passed":
		l.lines[table].how = "opened"
		return table, false
	case !list && (how == "opened" || how == "dotted"):
		return "", l.fault(at, api.ETWICE)
	}
	return "", l.fault(at, api.ECLASH)
}

// whole is the value at a way.
func (l *ledger) whole(way string) api.Value {
	there := l.lines[way]
	switch there.how {
	case "said":
		return there.said
	case "rows":
		v := api.Value{Kind: api.List}
		for i := range there.rows {
			v.L = append(v.L, l.whole(fmt.Sprintf("%s#%d", way, i)))
		}
		return v
	}
	v := api.Value{Kind: api.Map}
	for _, name := range l.names[way] {
		v.M = append(v.M, pair(name, l.whole(below(way, name))))
	}
	sort.Slice(v.M, func(i, j int) bool { return v.M[i].Key < v.M[j].Key })
	return v
}

// bracket is a list or an inline table that is not shut yet; under all of them is the line itself.
type bracket struct {
	kind  byte // [ or { or a 10
	depth int
	items []api.Value
	table string // that pairs are in
	key   []string
	keyAt int
}

// What may come next.
const (
	aLine = iota
	aKey
	aValue
	behindValue
)

// machine reads a text with a stack, and what may come next.
type machine struct {
	ledger
	at      int
	stack   []bracket
	said    api.Value // that was read last
	open    string
	inlines int
}

// skip goes on behind what does not count, and tells whether some text stands there.
func (m *machine) skip(lines bool, head string) bool {
	m.at = tlex.Skip(m.text, m.at, lines)
	return strings.HasPrefix(m.text[m.at:], head)
}

// lineEnds tells whether a line may end.
func (m *machine) lineEnds() bool {
	return m.skip(false, "\n") || m.skip(false, "\r\n") || m.skip(false, "#") || m.at == len(m.text)
}

// keyFault reads a key.
func (m *machine) keyFault() ([]string, int, bool) {
	begin := tlex.Skip(m.text, m.at, false)
	key, next, bad := tlex.Key(m.text, begin)
	if bad >= 0 {
		return nil, 0, m.fault(bad, api.ESYNTAX)
	}
	for _, part := range key {
		if len(part) > api.MaxStr {
			return nil, 0, m.fault(begin, api.ELIMIT)
		}
	}
	m.at = next
	return key, begin, false
}

// lineFault reads a line's beginning, or a whole header.
func (m *machine) lineFault() (int, bool) {
	if !m.skip(true, "[") {
		m.stack = []bracket{{kind: '\n', table: m.open, depth: m.lines[m.open].depth}}
		return aKey, false
	}
	marks := 1
	if m.skip(true, "[[") {
		marks = 2
	}
	m.at += marks
	key, begin, failed := m.keyFault()
	if failed {
		return 0, true
	}
	m.skip(false, "")
	for range marks {
		if !strings.HasPrefix(m.text[m.at:], "]") {
			return 0, m.fault(m.at, api.ESYNTAX)
		}
		m.at++
	}
	if !m.lineEnds() {
		return 0, m.fault(m.at, api.ESYNTAX)
	}
	m.open, failed = m.headerFault(key, begin, marks == 2)
	return aLine, failed
}

// valueFault reads a value's beginning, or a whole one without parts.
func (m *machine) valueFault() (int, bool) {
	top := &m.stack[len(m.stack)-1]
	depth := top.depth + max(len(top.key), 1)
	if m.skip(top.kind == '[', "[") || m.skip(top.kind == '[', "{") {
		kind := m.text[m.at]
		if m.node(m.at, depth) {
			return 0, true
		}
		m.at++
		m.inlines++
		table := fmt.Sprint("inline", m.inlines)
		m.lines[table] = &line{how: "opened", depth: depth}
		m.stack = append(m.stack, bracket{kind: kind, depth: depth, table: table})
		shut := map[byte]string{'[': "]", '{': "}"}[kind]
		if m.skip(kind == '[', shut) {
			m.shut()
			return behindValue, false
		}
		return map[byte]int{'[': aValue, '{': aKey}[kind], false
	}
	v, next, e, bad := tlex.Plain(m.text, m.at)
	if e != api.OK && bad == m.at {
		return 0, m.fault(bad, e)
	}
	if m.node(m.at, depth) {
		return 0, true
	}
	if e != api.OK {
		return 0, m.fault(bad, e)
	}
	m.said, m.at = v, next
	return behindValue, false
}

// shut steps past the bracket that shuts the one on top.
func (m *machine) shut() {
	top := m.stack[len(m.stack)-1]
	m.stack = m.stack[:len(m.stack)-1]
	m.at++
	m.said = api.Value{Kind: api.List, L: top.items}
	if top.kind == '{' {
		m.said = m.whole(top.table)
	}
}

// behindFault reads what stands behind a value.
func (m *machine) behindFault() (int, bool) {
	top := &m.stack[len(m.stack)-1]
	if top.kind == '[' {
		top.items = append(top.items, m.said)
		more := m.skip(true, ",")
		if more {
			m.at++
		}
		if m.skip(true, "]") {
			m.shut()
			return behindValue, false
		}
		return aValue, !more && m.fault(m.at, api.ESYNTAX)
	}
	if m.pairFault(top.table, top.key, top.keyAt, m.said) {
		return 0, true
	}
	switch {
	case top.kind == '\n':
		return aLine, !m.lineEnds() && m.fault(m.at, api.ESYNTAX)
	case m.skip(false, "}"):
		m.shut()
		return behindValue, false
	case m.skip(false, ","):
		m.at++
		return aKey, false
	}
	return 0, m.fault(m.at, api.ESYNTAX)
}

// step does what comes next, and tells what may then, or that there is a fault.
func (m *machine) step(next int) (int, bool) {
	switch next {
	case aLine:
		return m.lineFault()
	case aValue:
		return m.valueFault()
	case behindValue:
		return m.behindFault()
	}
	key, begin, failed := m.keyFault()
	if failed {
		return 0, true
	}
	top := &m.stack[len(m.stack)-1]
	top.key, top.keyAt = key, begin
	if !m.skip(false, "=") {
		return 0, m.fault(m.at, api.ESYNTAX)
	}
	m.at++
	return aValue, false
}

// expected is what Parse must answer, worked out in another way.
func expected(text string) (api.Value, api.Fault) {
	if len(text) > api.MaxText {
		return null, faultAt(text, len(text), api.ELIMIT)
	}
	for at := 0; at < len(text); {
		r, n := utf8.DecodeRuneInString(text[at:])
		if r == utf8.RuneError && n == 1 {
			return null, faultAt(text, at, api.EUTF)
		}
		at += n
	}
	m := machine{ledger: ledger{text: text, lines: map[string]*line{"": {how: "opened", depth: 1}}, names: map[string][]string{}, nodes: 1}}
	for next := aLine; next != aLine || !m.skip(true, "") || m.at < len(text); {
		failed := false
		if next, failed = m.step(next); failed {
			return null, faultAt(text, m.bad, m.err)
		}
	}
	return m.whole(""), api.Fault{}
}

// checkText holds what Parse and Valid answer against what is worked out in another way.
func checkText(t *testing.T, text string) {
	t.Helper()
	want, wantFault := expected(text)
	got, fault := tread.Parse(text)
	if fault != wantFault || !value.Same(got, want) {
		t.Fatalf("P11.1, P11.2: Parse(%s): %s, %+v, want %s, %+v", short(text), told(got), fault, told(want), wantFault)
	}
	if fault.Err == api.OK && !value.Good(got) {
		t.Fatalf("P11.1: Parse(%s): no Good value: %s", short(text), told(got))
	}
	if tread.Valid(text) != (fault.Err == api.OK) {
		t.Fatalf("P11.1: Valid(%s): %v, but Parse tells %+v", short(text), tread.Valid(text), fault)
	}
}

// Each text of up to so many of the pieces that make a difference.
func TestEveryShortText(t *testing.T) {
	for _, c := range []struct {
		parts  []string
		length int
	}{
		{[]string{"a", ".", "=", "1", "[", "]", "{", "}", ",", "\n", " ", "#", "'"}, 4},
		{[]string{"a=", "a.b=", "[", "]", "{", "}", ",", "1", "\n"}, 5},
		{[]string{"[", "]", "a", ".", "\n", "b=1"}, 6},
		{[]string{"a=1\n", "a.b=1\n", "a.b.c=1\n", "a={}\n", "a=[{}]\n", "[a]\n", "[a.b]\n", "[a.b.c]\n", "[[a]]\n", "[[a.b]]\n", "[b]\n", "b=1\n", "b.c=1\n"}, 4},
		{[]string{"[a]\n", "[a.b]\n", "[[a]]\n", "[[a.b]]\n", "b=1\n", "b.c=1\n", "[a.b.c]\n"}, 5},
	} {
		level := []string{""}
		for range c.length + 1 {
			next := []string{}
			for _, s := range level {
				checkText(t, s)
				for _, part := range c.parts {
					next = append(next, s+part)
				}
			}
			level = next
		}
	}
}

// The other way must tell of the written-out texts what is written there; and each of two of them in
// one text.
func TestTables(t *testing.T) {
	for _, c := range right {
		checkText(t, c.text)
	}
	for _, c := range wrong {
		checkText(t, c.right+c.rest)
	}
	for _, first := range right {
		for _, second := range right {
			checkText(t, first.text+"\n"+second.text)
		}
	}
}

// grower makes texts of the grammar, at random; names may clash.
type grower struct{ *rand.Rand }

// one is one of some texts.
func (g grower) one(of ...string) string { return of[g.Intn(len(of))] }

// gap is what may stand between the parts of a line.
func (g grower) gap() string { return g.one("", "", "", " ", "\t", " \t ") }

// lines is what may stand between the parts of a list.
func (g grower) lines() string { return g.one("", "", " ", "\n", "\r\n\t", " # x,]\n", "\n\n") }

// key is a key of a few parts, of few or of many names.
func (g grower) key(many bool) string {
	parts := []string{}
	for range 1 + g.Intn(3)*g.Intn(2) {
		part := g.one("a", "b", "'a'", `"\u0062"`, "c", "''")
		if many {
			part = fmt.Sprint("k", g.Intn(1000))
		}
		parts = append(parts, part)
	}
	return strings.Join(parts, g.gap()+"."+g.gap())
}

// value is a value that is not too deep.
func (g grower) value(depth int, many bool) string {
	kind := g.Intn(4)
	if depth == 0 || kind < 2 {
		return g.one("1", "-0.5", "true", "''", `"a\n"`, "'''\nx\n'''", "1979-05-27", "1979-05-27 07:32:00", "nan", "0x1F", "'\u20ac'")
	}
	parts := []string{}
	for range g.Intn(4) {
		if kind == 2 {
			parts = append(parts, g.lines()+g.value(depth-1, many)+g.lines())
		} else {
			parts = append(parts, g.gap()+g.key(many)+g.gap()+"="+g.gap()+g.value(depth-1, many)+g.gap())
		}
	}
	if kind == 3 {
		return "{" + strings.Join(parts, ",") + g.gap() + "}"
	}
	end := ""
	if len(parts) > 0 {
		end = g.one("", ",", ","+g.lines())
	}
	return "[" + strings.Join(parts, ",") + end + g.lines() + "]"
}

// text is some lines.
func (g grower) text(many bool) string {
	text := ""
	for range g.Intn(12) {
		text += g.gap()
		switch g.Intn(6) {
		case 0:
			text += "[" + g.gap() + g.key(many) + g.gap() + "]"
		case 1:
			text += "[[" + g.gap() + g.key(many) + g.gap() + "]]"
		case 2:
		default:
			text += g.key(many) + g.gap() + "=" + g.gap() + g.value(g.Intn(4), many)
		}
		text += g.gap() + g.one("\n", "\n", "\r\n", "# x\n", "#\r\n\n")
	}
	return text
}

// Texts made at random, whole ones and such as were spoilt in one place.
func TestGrown(t *testing.T) {
	g := grower{rand.New(rand.NewSource(11))}
	spoilt := []string{"{", "}", "[", "]", "=", ",", ".", "'a'", "1", "a", " ", "#", "\n", "\r", "\xff", `"`, "'", "[a]\n", "\n[a]\n", "\na = 1\n", "99999999999999999999"}
	valid, faults := 0, map[api.Errno]int{}
	for i := range 20000 {
		text := g.text(i%3 > 0)
		checkText(t, text)
		if _, fault := tread.Parse(text); fault.Err == api.OK {
			valid++
		} else {
			faults[fault.Err]++
		}
		at := g.Intn(len(text) + 1)
		checkText(t, text[:at])
		checkText(t, text[at:])
		checkText(t, text[:at]+spoilt[g.Intn(len(spoilt))]+text[at:])
		checkText(t, text[:at]+text[min(at+1, len(text)):])
	}
	if valid < 5000 || faults[api.ETWICE] < 500 || faults[api.ECLASH] < 500 || faults[api.ESYNTAX] > 0 {
		t.Errorf("the texts are not as they should be: %d valid, %v not", valid, faults)
	}
}

// Texts about the limits, made at random.
func TestGrownGreat(t *testing.T) {
	g := grower{rand.New(rand.NewSource(111))}
	valid, faulty := 0, 0
	for range 120 {
		text := full(api.MaxNodes-g.Intn(40)) + g.text(true)
		deep := dots(api.MaxDepth - 1 - g.Intn(5))
		text += g.one("", "["+deep+"]\n", "[["+deep+"]]\n", "[d]\n"+deep+" = ") + g.value(1+g.Intn(3), true)
		for _, s := range []string{text, text[:g.Intn(len(text))], strings.Replace(text, "f", deep, 1)} {
			checkText(t, s)
		}
		if _, fault := tread.Parse(text); fault.Err == api.ELIMIT {
			faulty++
		} else {
			valid++
		}
	}
	if valid < 15 || faulty < 15 {
		t.Errorf("the texts are not about the limits: %d within, %d past", valid, faulty)
	}
}

func FuzzText(f *testing.F) {
	for _, c := range right {
		f.Add(c.text)
	}
	for _, c := range wrong {
		f.Add(c.right + c.rest)
	}
	for _, way := range taken {
		for _, line := range asks {
			f.Add(way.text + line[0] + line[1])
		}
	}
	for _, c := range counted {
		f.Add(c.text)
	}
	f.Fuzz(checkText)
}
