package rows

import (
	"fmt"
	"slices"
	"strings"

	"bolting/api"
)

// node is a node as a tree has it: the model that rows are held against. What has the roots as its kids is one too, with the number -1.
type node struct {
	row    api.Row
	number int
	parent *node
	kids   []*node
}

// treeOf reads valid rows: the parent of a row is the last one ahead of it that is one level higher.
func treeOf(l []api.Row) *node {
	top := &node{number: -1}
	last := map[int]*node{-1: top}
	for i, row := range l {
		n := &node{row: row, number: i, parent: last[row.Depth-1]}
		n.parent.kids = append(n.parent.kids, n)
		last[row.Depth] = n
	}
	return top
}

// all are the nodes of a subtree in order, without what has the roots.
func (n *node) all() []*node {
	var out []*node
	if n.number >= 0 {
		out = append(out, n)
	}
	for _, kid := range n.kids {
		out = append(out, kid.all()...)
	}
	return out
}

// at is the node of that number; nil: there is none.
func (n *node) at(i int) *node {
	if i == n.number {
		return n
	}
	for _, kid := range n.kids {
		if found := kid.at(i); found != nil {
			return found
		}
	}
	return nil
}

// rowsOf writes trees down, these being at that depth.
func rowsOf(trees []*node, depth int) []api.Row {
	var out []api.Row
	for _, n := range trees {
		row := n.row
		row.Depth = depth
		out = append(out, row)
		out = append(out, rowsOf(n.kids, depth+1)...)
	}
	return out
}

func (n *node) end() int { return n.number + len(n.all()) }

func (n *node) text() string {
	var b strings.Builder
	for _, x := range n.all() {
		if x.row.Kind == api.KindText {
			b.WriteString(x.row.Data)
		}
	}
	return b.String()
}

func (n *node) kidNumbers() []int {
	var out []int
	for _, kid := range n.kids {
		out = append(out, kid.number)
	}
	return out
}

// normal first joins each text to the one before it among its parent's kids, and then leaves the empty ones out.
func (n *node) normal() *node {
	out := &node{row: n.row, number: n.number}
	for _, kid := range n.kids {
		k := len(out.kids)
		if kid.row.Kind == api.KindText && k > 0 && out.kids[k-1].row.Kind == api.KindText {
			out.kids[k-1].row.Data += kid.row.Data
			continue
		}
		out.kids = append(out.kids, kid.normal())
	}
	out.kids = slices.DeleteFunc(out.kids, func(x *node) bool { return x.row.Kind == api.KindText && x.row.Data == "" })
	return out
}

func wantNormal(l []api.Row) []api.Row { return rowsOf(treeOf(l).normal().kids, 0) }

func wantDrop(l []api.Row, i int) []api.Row {
	top := treeOf(l)
	p := top.at(i).parent
	p.kids = slices.DeleteFunc(p.kids, func(x *node) bool { return x.number == i })
	return rowsOf(top.kids, 0)
}

func wantTake(l []api.Row, i int) []api.Row { return rowsOf([]*node{treeOf(l).at(i)}, 0) }

func wantPut(l []api.Row, parent, at int, sub []api.Row) ([]api.Row, api.Errno) {
	top := treeOf(l)
	p := top.at(parent)
	if p == nil || parent != -1 && p.row.Kind != api.KindElement {
		return nil, api.ErrRowsPlace
	}
	if at < 0 || at > len(p.kids) {
		return nil, api.ErrArg
	}
	if !wantValid(sub) {
		return nil, api.ErrRowsForm
	}
	p.kids = slices.Insert(p.kids, at, treeOf(sub).kids...)
	out := rowsOf(top.kids, 0)
	if wantBig(out) {
		return nil, api.ErrBig
	}
	return out, api.OK
}

func wantBig(l []api.Row) bool {
	return len(l) > 4096 || slices.ContainsFunc(l, func(x api.Row) bool { return x.Depth >= 60 })
}

// wantValid is the chapter's sentence on valid rows, clause by clause.
func wantValid(l []api.Row) bool {
	for i, x := range l {
		if i == 0 && x.Depth != 0 || x.Depth < 0 {
			return false
		}
		if i > 0 && x.Depth > l[i-1].Depth && (x.Depth-1 != l[i-1].Depth || l[i-1].Kind != 0) {
			return false
		}
		var named []string
		for _, a := range x.Attrs {
			if slices.Contains(named, a.Name) {
				return false
			}
			named = append(named, a.Name)
		}
		element := x.Kind == 0 && x.Name != "" && x.Data == ""
		other := (x.Kind == 1 || x.Kind == 2) && x.Name == "" && len(x.Attrs) == 0
		if !element && !other {
			return false
		}
	}
	return true
}

func wantCheck(l []api.Row) api.Errno {
	if wantBig(l) {
		return 2
	}
	if !wantValid(l) {
		return 40
	}
	return 0
}

// plain writes rows down so that two are the same just if what is written is: no nil is told from an empty list.
func plain(l []api.Row) string {
	var b strings.Builder
	for _, x := range l {
		fmt.Fprintf(&b, "[%d %d %q %q", x.Depth, x.Kind, x.Name, x.Data)
		for _, a := range x.Attrs {
			fmt.Fprintf(&b, " %q=%q", a.Name, a.Value)
		}
		b.WriteString("]")
	}
	return b.String()
}

func el(depth int, name string, attrs ...api.Attr) api.Row {
	return api.Row{Depth: depth, Kind: api.KindElement, Name: name, Attrs: attrs}
}

func text(depth int, s string) api.Row { return api.Row{Depth: depth, Kind: api.KindText, Data: s} }

func note(depth int, s string) api.Row {
	return api.Row{Depth: depth, Kind: api.KindComment, Data: s}
}

func attr(name, value string) api.Attr { return api.Attr{Name: name, Value: value} }

// listsOf are all lists of at most n rows of from at the depths from low to high.
func listsOf(from []api.Row, n, low, high int) [][]api.Row {
	lists := [][]api.Row{nil}
	for start := 0; n > 0; n-- {
		end := len(lists)
		for _, l := range lists[start:end] {
			for _, row := range from {
				for row.Depth = low; row.Depth <= high; row.Depth++ {
					lists = append(lists, append(slices.Clone(l), row))
				}
			}
		}
		start = end
	}
	return lists
}

// treesOf are all valid ones of at most n rows of from.
func treesOf(from []api.Row, n int) [][]api.Row {
	lists := [][]api.Row{nil}
	for start := 0; n > 0; n-- {
		end := len(lists)
		for _, l := range lists[start:end] {
			for _, row := range from {
				for row.Depth = 0; row.Depth <= len(l); row.Depth++ {
					if next := append(slices.Clone(l), row); wantValid(next) {
						lists = append(lists, next)
					}
				}
			}
		}
		start = end
	}
	return lists
}

// someRows are one row of each valid sort.
func someRows() []api.Row {
	return []api.Row{el(0, "p"), el(0, "b", attr("id", "x"), attr("class", "y")), text(0, "t"), text(0, ""), note(0, "c")}
}

// list has each kind of node at more than one depth.
func list() []api.Row {
	return []api.Row{
		el(0, "ul", attr("id", "x")), el(1, "li"), text(2, "a"), text(2, "b"), el(1, "li"),
		note(1, "n"), text(1, "c"), note(0, "m"), text(0, "d"),
	}
}

// chain are so many elements, each within the one before it.
func chain(n int) []api.Row {
	out := make([]api.Row, 0, n)
	for i := range n {
		out = append(out, el(i, "b"))
	}
	return out
}

// many are so many texts side by side.
func many(n int) []api.Row { return slices.Repeat([]api.Row{text(0, "x")}, n) }
