package build

import (
	"fmt"
	"slices"
	"strings"
	"testing"

	"bolting/api"
	"bolting/chars"
	"bolting/names"
	"bolting/rows"
	"bolting/token"
)

// node is a node as a tree has it. What has the roots as its kids is one too, without a parent.
type node struct {
	row    api.Row
	parent *node
	kids   []*node
}

// model is a plain reading of the chapter: at is the last open element, and what it stands within are the others.
type model struct {
	top, at *node
	rows    int
	deepest int
}

func newModel() *model {
	top := &node{}
	return &model{top: top, at: top, deepest: -1}
}

// put adds a node as the last kid of the last open element.
func (m *model) put(row api.Row) *node {
	n := &node{row: row, parent: m.at}
	m.at.kids = append(m.at.kids, n)
	m.rows++
	depth := 0
	for x := m.at; x != m.top; x = x.parent {
		depth++
	}
	m.deepest = max(m.deepest, depth)
	return n
}

// close is what the chapter calls closing names up to walls.
func (m *model) close(given, walls []string) {
	for n := m.at; n != m.top; n = n.parent {
		if slices.Contains(given, n.row.Name) {
			m.at = n.parent
			m.close(given, walls)
			return
		}
		if slices.Contains(walls, n.row.Name) {
			return
		}
	}
}

// closeFor closes what a start tag of a name does.
func (m *model) closeFor(name string) {
	m.close(names.Closes(name), names.Walls(name))
	if name == "li" || name == "dd" || name == "dt" {
		m.close([]string{"p"}, names.Walls("p"))
	}
}

func (m *model) text(data string) {
	kids := m.at.kids
	switch {
	case data == "":
	case len(kids) > 0 && kids[len(kids)-1].row.Kind == api.KindText:
		kids[len(kids)-1].row.Data += data
	default:
		m.put(api.Row{Kind: api.KindText, Data: data})
	}
}

func (m *model) start(t api.Token) {
	if t.Name == "" || names.Gone(t.Name) {
		return
	}
	m.closeFor(t.Name)
	row := api.Row{Kind: api.KindElement, Name: t.Name}
	for _, a := range t.Attrs {
		if !slices.ContainsFunc(row.Attrs, func(x api.Attr) bool { return x.Name == a.Name }) {
			row.Attrs = append(row.Attrs, a)
		}
	}
	n := m.put(row)
	if !names.Void(t.Name) {
		m.at = n
	}
}

func (m *model) end(name string) {
	if name == "" || names.Gone(name) || names.Void(name) {
		return
	}
	walls := slices.DeleteFunc(names.Walls("p"), func(x string) bool { return x == name })
	if slices.Contains(strings.Fields("table tbody td tfoot th thead tr"), name) {
		walls = []string{"table", "template"}
	}
	for n := m.at; n != m.top; n = n.parent {
		if n.row.Name == name {
			m.at = n.parent
			return
		}
		if slices.Contains(walls, n.row.Name) {
			break
		}
	}
	if name == "p" {
		m.put(api.Row{Kind: api.KindElement, Name: "p"})
	}
}

// wantTree is the chapter's P7.1.
func wantTree(l []api.Token) ([]api.Row, api.Errno) {
	m := newModel()
	for _, t := range l {
		switch t.Kind {
		case api.TokText:
			m.text(t.Data)
		case api.TokComment:
			m.put(api.Row{Kind: api.KindComment, Data: t.Data})
		case api.TokStart:
			m.start(t)
		case api.TokEnd:
			m.end(t.Name)
		}
		if m.rows > 4096 || m.deepest >= 60 {
			return nil, 2
		}
	}
	return m.top.written(0), 0
}

// written are the rows of what a node has, at that depth.
func (n *node) written(depth int) []api.Row {
	var out []api.Row
	for _, kid := range n.kids {
		row := kid.row
		row.Depth = depth
		out = append(append(out, row), kid.written(depth+1)...)
	}
	return out
}

// wantNested is the chapter's P7.3.
func wantNested(name string, around []string) bool {
	m := newModel()
	for _, one := range around {
		m.at = m.put(api.Row{Name: one})
	}
	last := m.at
	m.closeFor(name)
	return m.at == last
}

// plain writes rows down so that two are the same just if what is written is: no nil is told from an empty list.
func plain(l []api.Row) string {
	var b strings.Builder
	for _, x := range l {
		fmt.Fprintf(&b, "[%d %d %q %q", x.Depth, x.Kind, x.Name, x.Data)
		for _, a := range x.Attrs {
			fmt.Fprintf(&b, " %q=%q", a.Name, a.Value)
		}
		b.WriteString("]")
	}
	return b.String()
}

// drawn writes trees down to be read: (name attributes kids), 'text', !comment!.
func drawn(l []api.Row) string { return drawnKids(l, -1) }

func drawnKids(l []api.Row, i int) string {
	var parts []string
	for _, k := range rows.Kids(l, i) {
		switch x := l[k]; x.Kind {
		case api.KindText:
			parts = append(parts, "'"+x.Data+"'")
		case api.KindComment:
			parts = append(parts, "!"+x.Data+"!")
		default:
			part := "(" + x.Name
			for _, a := range x.Attrs {
				part += " " + a.Name + "=" + a.Value
			}
			parts = append(parts, strings.TrimSuffix(part+" "+drawnKids(l, k), " ")+")")
		}
	}
	return strings.Join(parts, " ")
}

// checkTree is P7.1 and P7.4 for some tokens.
func checkTree(t *testing.T, tokens []api.Token) {
	t.Helper()
	l, e := Tree(tokens)
	if want, wantE := wantTree(tokens); e != wantE || plain(l) != plain(want) {
		t.Errorf("%s:\n%d rows %s, %d, want\n%d rows %s, %d", brief(tokens), len(l), drawn(l), e, len(want), drawn(want), wantE)
	}
	if e := rows.Check(l); e != api.OK {
		t.Errorf("%s: rows that are not valid: %d: %s", brief(tokens), e, plain(l))
	}
	if !rows.Same(l, rows.Normal(l)) {
		t.Errorf("%s: rows that Normal changes: %s", brief(tokens), plain(l))
	}
}

// brief writes the first tokens down.
func brief(l []api.Token) string { return fmt.Sprintf("%d tokens %v", len(l), l[:min(len(l), 12)]) }

// checkNames is what P7.4 says of rows whose names are those of token.Cut.
func checkNames(t *testing.T, what string, l []api.Row) {
	t.Helper()
	var around []string
	for i, x := range l {
		around = around[:x.Depth]
		if x.Kind != api.KindElement {
			continue
		}
		if !Nested(x.Name, around) || !wantNested(x.Name, around) {
			t.Errorf("%s: %q at row %d is not nested within %q", what, x.Name, i, around)
		}
		if names.Void(x.Name) && len(rows.Kids(l, i)) > 0 {
			t.Errorf("%s: %q at row %d has kids", what, x.Name, i)
		}
		around = append(around, x.Name)
	}
}

// checkParse is P7.2 and P7.4 for some bytes, and for what an element of a name has.
func checkParse(t *testing.T, s, name string) {
	t.Helper()
	l, e := In(s, name)
	cut := token.In(chars.Ready(s), name)
	want, wantE := wantTree(cut)
	if len(s) > 65536 {
		want, wantE = nil, 2
	}
	what := fmt.Sprintf("In(%.100q, %q)", s, name)
	if e != wantE || plain(l) != plain(want) {
		t.Errorf("%s: %s, %d, want %s, %d", what, drawn(l), e, drawn(want), wantE)
	}
	if len(s) <= 65536 {
		checkTree(t, cut)
	}
	checkNames(t, what, l)
	if name != "" {
		return
	}
	if l, e := Parse(s); e != wantE || plain(l) != plain(want) {
		t.Errorf("Parse(%.100q): %s, %d, want %s, %d", s, drawn(l), e, drawn(want), wantE)
	}
}

func text(s string) api.Token { return api.Token{Kind: api.TokText, Data: s} }

// start is a start tag with attributes, each a name and a value.
func start(name string, attrs ...string) api.Token {
	t := api.Token{Kind: api.TokStart, Name: name}
	for i := 0; i < len(attrs); i += 2 {
		t.Attrs = append(t.Attrs, api.Attr{Name: attrs[i], Value: attrs[i+1]})
	}
	return t
}

func end(name string) api.Token { return api.Token{Kind: api.TokEnd, Name: name} }

func note(s string) api.Token { return api.Token{Kind: api.TokComment, Data: s} }

func doc(s string) api.Token { return api.Token{Kind: api.TokDoctype, Data: s} }

// kind is a token of any kind, with all that a token can have.
func kind(k int) api.Token {
	return api.Token{Kind: k, Name: "b", Data: "d", Attrs: []api.Attr{{Name: "x", Value: "1"}}, Self: true}
}

// times are so many of one token.
func times(n int, t api.Token) []api.Token { return slices.Repeat([]api.Token{t}, n) }

// tags are tags written by their names, that of an end tag behind a '/'; others are texts behind a '\” and comments behind a '!'.
func tags(s string) []api.Token {
	var out []api.Token
	for _, word := range strings.Fields(s) {
		switch word[0] {
		case '/':
			out = append(out, end(word[1:]))
		case '\'':
			out = append(out, text(word[1:]))
		case '!':
			out = append(out, note(word[1:]))
		default:
			out = append(out, start(word))
		}
	}
	return out
}

// listsOf are all lists of at most n of from.
func listsOf[T any](from []T, n int) [][]T {
	all := [][]T{nil}
	for begin := 0; n > 0; n-- {
		end := len(all)
		for _, l := range all[begin:end] {
			for _, x := range from {
				all = append(all, append(slices.Clone(l), x))
			}
		}
		begin = end
	}
	return all
}
