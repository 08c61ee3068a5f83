package arena

import (
	"slices"

	"bolting/api"
	"bolting/names"
	"bolting/rows"
)

// line is a node in a tree that is written down as lines: how deep it stands in the tree, and its number.
type line struct{ depth, node int }

// plain is a document as the chapter's words have it, in another form: what each node is, and all trees written down, the root's first, those of detached nodes behind it in no order that matters. What stands where is read off the lines.
type plain struct {
	what  []api.Row
	trees [][]line
}

func newPlain() *plain {
	return &plain{what: []api.Row{{Kind: -1}}, trees: [][]line{{{0, 0}}}}
}

func (p *plain) there(node int) bool { return node >= 0 && node < len(p.what) }

// find is where a node is written: the tree, the line, and the line behind its subtree.
func (p *plain) find(node int) (tree, from, to int) {
	for tree, lines := range p.trees {
		for from, x := range lines {
			if x.node != node {
				continue
			}
			to := from + 1
			for to < len(lines) && lines[to].depth > x.depth {
				to++
			}
			return tree, from, to
		}
	}
	panic("a node that is nowhere")
}

// subtree are a node's lines, itself at depth 0.
func (p *plain) subtree(node int) []line {
	tree, from, to := p.find(node)
	return deeper(p.trees[tree][from:to], -p.trees[tree][from].depth)
}

func deeper(lines []line, by int) []line {
	out := slices.Clone(lines)
	for i := range out {
		out[i].depth += by
	}
	return out
}

func (p *plain) make(kind int, name, data string) (int, api.Errno) {
	element := kind == api.KindElement
	text := kind == api.KindText || kind == api.KindComment
	if !element && !text || element && !names.Right(name) || element && data != "" || text && name != "" {
		return 0, api.ErrArg
	}
	if len(p.what) >= 4096 {
		return 0, api.ErrBig
	}
	p.what = append(p.what, api.Row{Kind: kind, Name: name, Data: data})
	p.trees = append(p.trees, []line{{0, len(p.what) - 1}})
	return len(p.what) - 1, api.OK
}

func (p *plain) load(l []api.Row) ([]int, api.Errno) {
	if e := rows.Check(l); e != api.OK {
		return nil, e
	}
	if len(p.what)+len(l) > 4096 {
		return nil, api.ErrBig
	}
	var roots []int
	for i := range l {
		if rows.Parent(l, i) != -1 {
			continue
		}
		roots = append(roots, len(p.what)+i)
		var tree []line
		for k := i; k < rows.End(l, i); k++ {
			tree = append(tree, line{l[k].Depth, len(p.what) + k})
		}
		p.trees = append(p.trees, tree)
	}
	for _, row := range l {
		row.Depth, row.Attrs = 0, slices.Clone(row.Attrs)
		p.what = append(p.what, row)
	}
	return roots, api.OK
}

// cut takes a node's lines out of where they are: a tree of its own.
func (p *plain) cut(node int) {
	sub := p.subtree(node)
	tree, from, to := p.find(node)
	p.trees[tree] = slices.Concat(p.trees[tree][:from], p.trees[tree][to:])
	if len(p.trees[tree]) == 0 {
		p.trees = slices.Delete(p.trees, tree, tree+1)
	}
	p.trees = append(p.trees, sub)
}

func (p *plain) insert(parent, at, node int) api.Errno {
	if !p.there(parent) || !p.there(node) || node == 0 {
		return api.ErrArenaNode
	}
	if k := p.what[parent].Kind; k == api.KindText || k == api.KindComment || p.within(parent, node) {
		return api.ErrArenaTree
	}
	others := slices.DeleteFunc(p.kids(parent), func(kid int) bool { return kid == node })
	if at < 0 || at > len(others) {
		return api.ErrArg
	}
	p.cut(node)
	sub := p.subtree(node)
	p.trees = p.trees[:len(p.trees)-1] // cut has laid it last
	tree, from, to := p.find(parent)
	place := to
	if at < len(others) {
		_, place, _ = p.find(others[at])
	}
	sub = deeper(sub, p.trees[tree][from].depth+1)
	p.trees[tree] = slices.Concat(p.trees[tree][:place], sub, p.trees[tree][place:])
	return api.OK
}

func (p *plain) remove(node int) api.Errno {
	if !p.there(node) || node == 0 {
		return api.ErrArenaNode
	}
	p.cut(node)
	return api.OK
}

func (p *plain) clone(node int) (int, api.Errno) {
	if !p.there(node) || node == 0 {
		return 0, api.ErrArenaNode
	}
	sub := p.subtree(node)
	if len(p.what)+len(sub) > 4096 {
		return 0, api.ErrBig
	}
	first := len(p.what)
	for i, x := range sub {
		row := p.what[x.node]
		row.Attrs = slices.Clone(row.Attrs)
		p.what = append(p.what, row)
		sub[i].node = first + i
	}
	p.trees = append(p.trees, sub)
	return first, api.OK
}

func (p *plain) attr(node int, name, value string) api.Errno {
	if !p.there(node) || p.what[node].Kind != api.KindElement {
		return api.ErrArenaNode
	}
	if !names.Attr(name) {
		return api.ErrArg
	}
	row := &p.what[node]
	i := slices.IndexFunc(row.Attrs, func(a api.Attr) bool { return a.Name == name })
	if i < 0 {
		row.Attrs = append(row.Attrs, api.Attr{Name: name})
		i = len(row.Attrs) - 1
	}
	row.Attrs[i].Value = value
	return api.OK
}

func (p *plain) drop(node int, name string) api.Errno {
	if !p.there(node) || p.what[node].Kind != api.KindElement {
		return api.ErrArenaNode
	}
	row := &p.what[node]
	rest := slices.DeleteFunc(slices.Clone(row.Attrs), func(a api.Attr) bool { return a.Name == name })
	if len(rest) == len(row.Attrs) {
		return api.ErrArg
	}
	row.Attrs = rest
	return api.OK
}

func (p *plain) data(node int, data string) api.Errno {
	if !p.there(node) || p.what[node].Kind != api.KindText && p.what[node].Kind != api.KindComment {
		return api.ErrArenaNode
	}
	p.what[node].Data = data
	return api.OK
}

func (p *plain) parent(node int) int {
	if !p.there(node) {
		return -1
	}
	tree, from, _ := p.find(node)
	for i := from - 1; i >= 0; i-- {
		if p.trees[tree][i].depth == p.trees[tree][from].depth-1 {
			return p.trees[tree][i].node
		}
	}
	return -1
}

func (p *plain) kids(node int) []int {
	if !p.there(node) {
		return nil
	}
	var out []int
	for _, x := range p.subtree(node) {
		if x.depth == 1 {
			out = append(out, x.node)
		}
	}
	return out
}

func (p *plain) row(node int) (api.Row, api.Errno) {
	switch {
	case !p.there(node):
		return api.Row{}, api.ErrArenaNode
	case node == 0:
		return api.Row{}, api.OK
	}
	return p.what[node], api.OK
}

func (p *plain) rows(node int) []api.Row {
	if !p.there(node) {
		return nil
	}
	lines := p.subtree(node)
	if node == 0 {
		lines = deeper(lines[1:], -1)
	}
	var out []api.Row
	for _, x := range lines {
		row := p.what[x.node]
		row.Depth = x.depth
		out = append(out, row)
	}
	return out
}

func (p *plain) within(node, other int) bool {
	return p.there(node) && p.there(other) && slices.ContainsFunc(p.subtree(other), func(x line) bool { return x.node == node })
}

func (p *plain) copy() *plain {
	c := &plain{what: slices.Clone(p.what), trees: slices.Clone(p.trees)}
	for i := range c.what {
		c.what[i].Attrs = slices.Clone(c.what[i].Attrs)
	}
	for i := range c.trees {
		c.trees[i] = slices.Clone(c.trees[i])
	}
	return c
}
