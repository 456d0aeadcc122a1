package tread

import (
	"dragoman/api"
	"dragoman/value"
)

// What a name may stand for.
const (
	settled = iota // a value, a list of values, an inline table: no name is put into it any more
	dotted         // a table that a pair's dotted key made
	passed         // a table that a header made as a part on its way, and none has opened yet
	opened         // a table that a header opened
	rows           // a list of headers' tables
)

// node is what a name stands for, while one reads.
type node struct {
	kind   int
	depth  int
	said   api.Value        // what is settled
	names  map[string]*node // of a table
	tables []*node          // of a list of headers' tables: one or more, when a header is done
}

// newNode is a table, or a list of headers' tables, that is so deep and has nothing in it.
func newNode(kind, depth int) *node {
	return &node{kind: kind, depth: depth, names: map[string]*node{}}
}

// value is the value that a node has become.
func (n *node) value() api.Value {
	switch n.kind {
	case settled:
		return n.said
	case rows:
		items := []api.Value{}
		for _, table := range n.tables {
			items = append(items, table.value())
		}
		return value.List(items...)
	}
	pairs := []api.Pair{}
	for name, part := range n.names {
		pairs = append(pairs, api.Pair{Key: name, V: part.value()})
	}
	// Map puts the pairs in order. Each name is there once, is letters, and was asked for its
	// length, so that it refuses none.
	v, _ := value.Map(pairs...)
	return v
}

// add puts a table or a list that a key makes into a table.
func (r *reader) add(in *node, name string, k key, kind int) *node {
	r.count(k.at, in.depth+1)
	made := newNode(kind, in.depth+1)
	in.names[name] = made
	return made
}

// put puts a pair's value into a table: P11.2's rule 1.
func (r *reader) put(in *node, k key, v api.Value) {
	for _, part := range k.ahead() {
		next := in.names[part]
		if next == nil {
			next = r.add(in, part, k, dotted)
		}
		if next.kind != dotted {
			r.refuse(k.at, api.ECLASH)
		}
		in = next
	}
	if in.names[k.last()] != nil {
		r.refuse(k.at, api.ETWICE)
	}
	in.names[k.last()] = &node{kind: settled, said: v}
}

// reach is the table that a header's last part is in: what P11.2's rules 2 and 3 say of the parts
// ahead of it.
func (r *reader) reach(k key) *node {
	in := r.whole
	for _, part := range k.ahead() {
		next := in.names[part]
		if next == nil {
			next = r.add(in, part, k, passed)
		}
		switch next.kind {
		case settled:
			r.refuse(k.at, api.ECLASH)
		case rows:
			next = next.tables[len(next.tables)-1]
		}
		in = next
	}
	return in
}

// opens is the table that a header opens: P11.2's rule 2.
func (r *reader) opens(k key) *node {
	in := r.reach(k)
	table := in.names[k.last()]
	if table == nil {
		return r.add(in, k.last(), k, opened)
	}
	switch table.kind {
	case opened, dotted:
		r.refuse(k.at, api.ETWICE)
	case settled, rows:
		r.refuse(k.at, api.ECLASH)
	}
	table.kind = opened
	return table
}

// oneMore is the table that a header puts at the end of a list of such: P11.2's rule 3.
func (r *reader) oneMore(k key) *node {
	in := r.reach(k)
	list := in.names[k.last()]
	if list == nil {
		list = r.add(in, k.last(), k, rows)
	}
	if list.kind != rows {
		r.refuse(k.at, api.ECLASH)
	}
	r.count(k.at, list.depth+1)
	table := newNode(opened, list.depth+1)
	list.tables = append(list.tables, table)
	return table
}
