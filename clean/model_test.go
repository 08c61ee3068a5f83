package clean

import (
	"fmt"
	"slices"
	"strings"

	"bolting/api"
	"bolting/config"
	"bolting/risk"
	"bolting/rows"
)

// node is a node as a tree has it: the model that rows are held against.
type node struct {
	row    api.Row
	parent *node
	kids   []*node
}

// treeOf reads valid rows: the parent of a row is the last one ahead of it that is one level higher.
func treeOf(l []api.Row) *node {
	top := &node{}
	last := map[int]*node{-1: top}
	for _, row := range l {
		n := &node{row: row, parent: last[row.Depth-1]}
		n.parent.kids = append(n.parent.kids, n)
		last[row.Depth] = n
	}
	return top
}

// rowsOf writes trees down, these being at that depth.
func rowsOf(trees []*node, depth int) []api.Row {
	var out []api.Row
	for _, n := range trees {
		row := n.row
		row.Depth = depth
		out = append(out, row)
		out = append(out, rowsOf(n.kids, depth+1)...)
	}
	return out
}

// becomes is what comes to stand in the place of a node: none, itself, or what its kids become.
func (n *node) becomes(c api.Conf, safely bool) []*node {
	var kids []*node
	for _, kid := range n.kids {
		kids = append(kids, kid.becomes(c, safely)...)
	}
	if n.row.Kind == api.KindComment && !c.Comments {
		return nil
	}
	if n.row.Kind != api.KindElement {
		return []*node{n}
	}
	if safely && risk.Element(n.row.Name) {
		return nil
	}
	switch config.Element(c, n.row.Name) {
	case api.Gone:
		return nil
	case api.Replaced:
		return kids
	}
	row := n.row
	row.Attrs = wantAttrs(row, c, safely)
	return []*node{{row: row, kids: kids}}
}

func wantAttrs(x api.Row, c api.Conf, safely bool) []api.Attr {
	return slices.DeleteFunc(slices.Clone(x.Attrs), func(a api.Attr) bool {
		return !config.Attr(c, x.Name, a.Name) || safely && risk.Attr(x.Name, a)
	})
}

// joined has each text joined to the one before it among its parent's kids, and then the empty ones left out.
func joined(trees []*node) []*node {
	var out []*node
	for _, n := range trees {
		k := len(out)
		if n.row.Kind == api.KindText && k > 0 && out[k-1].row.Kind == api.KindText {
			out[k-1].row.Data += n.row.Data
			continue
		}
		out = append(out, &node{row: n.row, kids: joined(n.kids)})
	}
	return slices.DeleteFunc(out, func(x *node) bool { return x.row.Kind == api.KindText && x.row.Data == "" })
}

func wantRows(l []api.Row, c api.Conf, safely bool) ([]api.Row, api.Errno) {
	if e := config.Check(c); e != api.OK {
		return nil, e
	}
	if e := rows.Check(l); e != api.OK {
		return nil, e
	}
	var out []*node
	for _, root := range treeOf(l).kids {
		out = append(out, root.becomes(c, safely)...)
	}
	return rowsOf(joined(out), 0), api.OK
}

// plain writes rows down so that two are the same just if what is written is: no nil is told from an empty list.
func plain(l []api.Row) string {
	var b strings.Builder
	for _, x := range l {
		fmt.Fprintf(&b, "[%d %d %q %q%s]", x.Depth, x.Kind, x.Name, x.Data, plainAttrs(x.Attrs))
	}
	return b.String()
}

func plainAttrs(l []api.Attr) string {
	var b strings.Builder
	for _, a := range l {
		fmt.Fprintf(&b, " %q=%q", a.Name, a.Value)
	}
	return b.String()
}

func el(depth int, name string, attrs ...api.Attr) api.Row {
	return api.Row{Depth: depth, Kind: api.KindElement, Name: name, Attrs: attrs}
}

func text(depth int, s string) api.Row { return api.Row{Depth: depth, Kind: api.KindText, Data: s} }

func note(depth int, s string) api.Row {
	return api.Row{Depth: depth, Kind: api.KindComment, Data: s}
}

func attr(name, value string) api.Attr { return api.Attr{Name: name, Value: value} }

func per(element string, attrs ...string) api.Per { return api.Per{Element: element, Attrs: attrs} }

// trees reads trees from words: 'x is a text, !x a comment, (x/a=b/c an element with attributes, all up to its ) being in it.
func trees(s string) []api.Row {
	var out []api.Row
	depth := 0
	for _, word := range strings.Fields(s) {
		switch word[0] {
		case '\'':
			out = append(out, text(depth, word[1:]))
		case '!':
			out = append(out, note(depth, word[1:]))
		case '(':
			name, attrs, _ := strings.Cut(word[1:], "/")
			out = append(out, el(depth, name, attrsOf(attrs)...))
			depth++
		case ')':
			depth--
		}
	}
	return out
}

// attrsOf reads attributes: a=b/c.
func attrsOf(s string) []api.Attr {
	var out []api.Attr
	for word := range strings.SplitSeq(s, "/") {
		if name, value, _ := strings.Cut(word, "="); word != "" {
			out = append(out, attr(name, value))
		}
	}
	return out
}

// treesOf are all valid ones of at most n rows of from.
func treesOf(from []api.Row, n int) [][]api.Row {
	lists := [][]api.Row{nil}
	for start := 0; n > 0; n-- {
		end := len(lists)
		for _, l := range lists[start:end] {
			for _, row := range from {
				for row.Depth = 0; row.Depth <= len(l); row.Depth++ {
					if next := append(slices.Clone(l), row); rows.Check(next) == api.OK {
						lists = append(lists, next)
					}
				}
			}
		}
		start = end
	}
	return lists
}

// chain are so many elements, each within the one before it, with these names by turns.
func chain(n int, names ...string) []api.Row {
	out := make([]api.Row, 0, n)
	for i := range n {
		out = append(out, el(i, names[i%len(names)]))
	}
	return out
}
