package arena

import (
	"go/parser"
	"go/token"
	"math"
	"math/rand/v2"
	"slices"
	"strconv"
	"strings"
	"testing"

	"bolting/api"
	"bolting/names"
	"bolting/rows"
)

func attr(name, value string) api.Attr { return api.Attr{Name: name, Value: value} }

func el(depth int, name string, attrs ...api.Attr) api.Row {
	return api.Row{Depth: depth, Kind: api.KindElement, Name: name, Attrs: attrs}
}

func text(depth int, data string) api.Row {
	return api.Row{Depth: depth, Kind: api.KindText, Data: data}
}

func note(depth int, data string) api.Row {
	return api.Row{Depth: depth, Kind: api.KindComment, Data: data}
}

func of(l ...api.Row) []api.Row { return l }

// odd are numbers of which no document of a test has a node.
var odd = []int{-1, -2, math.MinInt, math.MinInt + 1, math.MaxInt, 4096, 4097, 1 << 32, -1 << 32}

// seen writes down all that the calls that look can tell of a document, of what are no nodes too.
func seen(d *Doc) string {
	var b strings.Builder
	say := func(word string, n ...int) {
		b.WriteString(word)
		for _, x := range n {
			b.WriteString(" " + strconv.Itoa(x))
		}
	}
	sayRow := func(row api.Row) {
		say(" row", row.Depth, row.Kind)
		b.WriteString(strconv.Quote(row.Name) + strconv.Quote(row.Data))
		for _, a := range row.Attrs {
			b.WriteString(strconv.Quote(a.Name) + "=" + strconv.Quote(a.Value))
		}
	}
	say("len", d.Len())
	for node := -1; node <= d.Len(); node++ {
		say("\n", node)
		say(" parent", d.Parent(node))
		say(" kids", d.Kids(node)...)
		row, e := d.Row(node)
		say(" is", int(e))
		sayRow(row)
		b.WriteString(" tree:")
		for _, row := range d.Rows(node) {
			sayRow(row)
		}
		say(" within")
		for other := -1; other <= d.Len(); other++ {
			if d.Within(node, other) {
				say("", other)
			}
		}
	}
	return b.String()
}

func sameRow(a, b api.Row) bool { return rows.Same([]api.Row{a}, []api.Row{b}) }

// checkNode holds all that is told of a node against the plain document.
func checkNode(t *testing.T, d *Doc, p *plain, node int) {
	t.Helper()
	if is, want := d.Parent(node), p.parent(node); is != want {
		t.Fatalf("Parent(%d): %d, want %d", node, is, want)
	}
	if is, want := d.Kids(node), p.kids(node); !slices.Equal(is, want) {
		t.Fatalf("Kids(%d): %v, want %v", node, is, want)
	}
	is, e := d.Row(node)
	want, wantE := p.row(node)
	if !sameRow(is, want) || e != wantE {
		t.Fatalf("Row(%d): %v, %d, want %v, %d", node, is, e, want, wantE)
	}
	if is, want := d.Rows(node), p.rows(node); !rows.Same(is, want) {
		t.Fatalf("Rows(%d): %v, want %v", node, is, want)
	}
}

// check holds all that is told of a document against the plain one, and P11.6 for the root.
func check(t *testing.T, d *Doc, p *plain) {
	t.Helper()
	if d.Len() != len(p.what) {
		t.Fatalf("Len: %d, want %d", d.Len(), len(p.what))
	}
	for node := -2; node <= d.Len()+1; node++ {
		checkNode(t, d, p, node)
		for other := -2; other <= d.Len()+1; other++ {
			if is, want := d.Within(node, other), p.within(node, other); is != want {
				t.Fatalf("Within(%d, %d): %t, want %t", node, other, is, want)
			}
		}
	}
	checkTree(t, d)
}

// checkTree tells of kids and parents that do not fit: each node below the root, and each below a detached one, is there once.
func checkTree(t *testing.T, d *Doc) {
	t.Helper()
	times := make([]int, d.Len())
	var walk func(node int)
	walk = func(node int) {
		times[node]++
		for _, kid := range d.Kids(node) {
			if d.Parent(kid) != node || kid == 0 {
				t.Fatalf("%d is a kid of %d, and its parent is %d", kid, node, d.Parent(kid))
			}
			walk(kid)
		}
	}
	for node := range d.Len() {
		if d.Parent(node) == -1 {
			walk(node)
		}
	}
	for node, n := range times {
		if n != 1 {
			t.Fatalf("node %d is there %d times", node, n)
		}
	}
}

// pair is a document and the plain one to which all is done likewise.
type pair struct {
	d *Doc
	p *plain
}

func newPair() pair { return pair{New(), newPlain()} }

func (x pair) copy() pair { return pair{x.d.Copy(), x.p.copy()} }

func (x pair) make(t *testing.T, kind int, name, data string) {
	t.Helper()
	n, e := x.d.Make(kind, name, data)
	if want, wantE := x.p.make(kind, name, data); n != want || e != wantE {
		t.Fatalf("Make(%d, %q, %q): %d, %d, want %d, %d", kind, name, data, n, e, want, wantE)
	}
}

func (x pair) load(t *testing.T, l []api.Row) {
	t.Helper()
	is, e := x.d.Load(l)
	if want, wantE := x.p.load(l); !slices.Equal(is, want) || e != wantE {
		t.Fatalf("Load(%v): %v, %d, want %v, %d", l, is, e, want, wantE)
	}
}

func (x pair) insert(t *testing.T, parent, at, node int) {
	t.Helper()
	if is, want := x.d.Insert(parent, at, node), x.p.insert(parent, at, node); is != want {
		t.Fatalf("Insert(%d, %d, %d): %d, want %d", parent, at, node, is, want)
	}
}

func (x pair) remove(t *testing.T, node int) {
	t.Helper()
	if is, want := x.d.Remove(node), x.p.remove(node); is != want {
		t.Fatalf("Remove(%d): %d, want %d", node, is, want)
	}
}

func (x pair) clone(t *testing.T, node int) {
	t.Helper()
	n, e := x.d.Clone(node)
	if want, wantE := x.p.clone(node); n != want || e != wantE {
		t.Fatalf("Clone(%d): %d, %d, want %d, %d", node, n, e, want, wantE)
	}
}

func (x pair) attr(t *testing.T, node int, name, value string) {
	t.Helper()
	if is, want := x.d.Attr(node, name, value), x.p.attr(node, name, value); is != want {
		t.Fatalf("Attr(%d, %q, %q): %d, want %d", node, name, value, is, want)
	}
}

func (x pair) drop(t *testing.T, node int, name string) {
	t.Helper()
	if is, want := x.d.Drop(node, name), x.p.drop(node, name); is != want {
		t.Fatalf("Drop(%d, %q): %d, want %d", node, name, is, want)
	}
}

func (x pair) data(t *testing.T, node int, data string) {
	t.Helper()
	if is, want := x.d.Data(node, data), x.p.data(node, data); is != want {
		t.Fatalf("Data(%d, %q): %d, want %d", node, data, is, want)
	}
}

func (x pair) check(t *testing.T) {
	t.Helper()
	check(t, x.d, x.p)
}

// loaded is a document of which the rows' roots are the root's kids, in order.
func loaded(t *testing.T, l ...api.Row) pair {
	t.Helper()
	x := newPair()
	x.load(t, l)
	for i, at := range rows.Kids(l, -1) {
		x.insert(t, 0, i, at+1)
	}
	return x
}

// family is a document with nodes of each kind, in the root's tree and detached: 1 ul (2 li (3 a text, 4 b), 5 comment, 6 li), 7 text; detached 8 div (9 p (10 text)), 11 comment, 12 text, 13 i.
func family(t *testing.T) pair {
	t.Helper()
	x := loaded(t, el(0, "ul", attr("id", "1"), attr("class", "x")), el(1, "li"), text(2, "a"), el(2, "b", attr("id", "2")), note(1, "c"), el(1, "li"), text(0, "d"))
	x.load(t, of(el(0, "div"), el(1, "p", attr("title", "")), text(2, "e"), note(0, "f"), text(0, ""), el(0, "i")))
	return x
}

// P11.1, P11.5: a new document.
func TestNew(t *testing.T) {
	d := New()
	row, e := d.Row(0)
	if d.Len() != 1 || d.Parent(0) != -1 || len(d.Kids(0)) != 0 || len(d.Rows(0)) != 0 || !d.Within(0, 0) || !sameRow(row, api.Row{}) || e != api.OK {
		t.Error(seen(d))
	}
	check(t, d, newPlain())
	for _, node := range append([]int{1, 2}, odd...) {
		row, e := d.Row(node)
		if d.Parent(node) != -1 || d.Kids(node) != nil || d.Rows(node) != nil || d.Within(node, node) || d.Within(node, 0) || d.Within(0, node) || !sameRow(row, api.Row{}) || e != api.ErrArenaNode {
			t.Errorf("%d: there is no such node", node)
		}
	}
}

// P11.1: outcomes written out.
func TestMake(t *testing.T) {
	x := newPair()
	for _, c := range []struct {
		kind       int
		name, data string
		n          int
		want       api.Errno
	}{
		{api.KindElement, "p", "", 1, api.OK},
		{api.KindElement, "x-y", "", 2, api.OK},
		{api.KindElement, "script", "", 3, api.OK},
		{api.KindElement, "html", "", 4, api.OK},
		{api.KindElement, "a<\xff\"='", "", 5, api.OK},
		{api.KindText, "", "x", 6, api.OK},
		{api.KindText, "", "", 7, api.OK},
		{api.KindText, "", "<b>\x00\xff", 8, api.OK},
		{api.KindComment, "", "x", 9, api.OK},
		{api.KindComment, "", "", 10, api.OK},
		{api.KindComment, "", "-->", 11, api.OK},
		{api.KindElement, "", "", 0, api.ErrArg},
		{api.KindElement, "P", "", 0, api.ErrArg},
		{api.KindElement, "pP", "", 0, api.ErrArg},
		{api.KindElement, "1", "", 0, api.ErrArg},
		{api.KindElement, "p q", "", 0, api.ErrArg},
		{api.KindElement, "p/", "", 0, api.ErrArg},
		{api.KindElement, "p>", "", 0, api.ErrArg},
		{api.KindElement, "p\x00", "", 0, api.ErrArg},
		{api.KindElement, "-", "", 0, api.ErrArg},
		{api.KindElement, "p", "x", 0, api.ErrArg},
		{api.KindElement, "p", " ", 0, api.ErrArg},
		{api.KindElement, "", "x", 0, api.ErrArg},
		{api.KindElement, "P", "x", 0, api.ErrArg},
		{api.KindText, "p", "", 0, api.ErrArg},
		{api.KindText, "p", "x", 0, api.ErrArg},
		{api.KindText, " ", "x", 0, api.ErrArg},
		{api.KindText, "P", "x", 0, api.ErrArg},
		{api.KindComment, "p", "", 0, api.ErrArg},
		{api.KindComment, "p", "x", 0, api.ErrArg},
		{3, "", "", 0, api.ErrArg},
		{3, "p", "", 0, api.ErrArg},
		{3, "", "x", 0, api.ErrArg},
		{4, "", "", 0, api.ErrArg},
		{-1, "", "", 0, api.ErrArg},
		{-1, "p", "", 0, api.ErrArg},
		{-1, "", "x", 0, api.ErrArg},
		{math.MinInt, "", "", 0, api.ErrArg},
		{math.MaxInt, "p", "", 0, api.ErrArg},
		{1 << 32, "p", "", 0, api.ErrArg},
		{1<<32 + 1, "", "", 0, api.ErrArg},
		{256, "p", "", 0, api.ErrArg},
		{257, "", "", 0, api.ErrArg},
		{api.KindElement, "p", "", 12, api.OK},
	} {
		before := x.d.Len()
		n, e := x.d.Make(c.kind, c.name, c.data)
		if n != c.n || e != c.want {
			t.Errorf("Make(%d, %q, %q): %d, %d, want %d, %d", c.kind, c.name, c.data, n, e, c.n, c.want)
		}
		if e != api.OK && x.d.Len() != before {
			t.Errorf("Make(%d, %q, %q): an error, and %d nodes of %d", c.kind, c.name, c.data, x.d.Len(), before)
		}
		x.p.make(c.kind, c.name, c.data)
		x.check(t)
	}
}

// P11.1: each byte as a name, at its beginning and behind it, for each kind.
func TestMakeNames(t *testing.T) {
	x := newPair()
	for c := range 256 {
		b := string([]byte{byte(c)})
		for _, name := range []string{b, b + "a", "a" + b, "a" + b + "a"} {
			n, e := x.d.Make(api.KindElement, name, "")
			if names.Right(name) != (e == api.OK) || (e != api.OK && (n != 0 || e != api.ErrArg)) {
				t.Errorf("Make of %q: %d, %d", name, n, e)
			}
			x.p.make(api.KindElement, name, "")
			x.make(t, api.KindText, name, "")
			x.make(t, api.KindComment, name, "")
			x.make(t, api.KindElement, "a", name)
			x.make(t, api.KindText, "", name)
		}
	}
	if x.d.Len() != len(x.p.what) {
		t.Errorf("%d nodes, want %d", x.d.Len(), len(x.p.what))
	}
	for kind := -300; kind <= 300; kind++ {
		for _, y := range [][2]string{{"", ""}, {"p", ""}, {"", "x"}, {"p", "x"}} {
			x.make(t, kind, y[0], y[1])
		}
	}
}

// filled is a document with so many nodes.
func filled(t *testing.T, n int) *Doc {
	t.Helper()
	d := New()
	for i := 1; i < n; i++ {
		kind, name := i%3, ""
		if kind == api.KindElement {
			name = "p"
		}
		if is, e := d.Make(kind, name, ""); is != i || e != api.OK {
			t.Fatalf("Make of node %d: %d, %d", i, is, e)
		}
	}
	if d.Len() != n {
		t.Fatalf("%d nodes, want %d", d.Len(), n)
	}
	return d
}

// P11.1, P11.3: the last node that there may be, those behind it, and which error comes first.
func TestFull(t *testing.T) {
	d := filled(t, 4096)
	for _, c := range []struct {
		kind       int
		name, data string
		want       api.Errno
	}{
		{api.KindElement, "p", "", api.ErrBig},
		{api.KindText, "", "", api.ErrBig},
		{api.KindComment, "", "x", api.ErrBig},
		{api.KindElement, "P", "", api.ErrArg},
		{api.KindElement, "p", "x", api.ErrArg},
		{api.KindText, "p", "", api.ErrArg},
		{api.KindComment, "p", "", api.ErrArg},
		{3, "", "", api.ErrArg},
		{-1, "", "", api.ErrArg},
	} {
		if n, e := d.Make(c.kind, c.name, c.data); n != 0 || e != c.want {
			t.Errorf("Make(%d, %q, %q): %d, %d, want %d", c.kind, c.name, c.data, n, e, c.want)
		}
	}
	for _, c := range []struct {
		l    []api.Row
		want api.Errno
	}{
		{nil, api.OK},
		{of(), api.OK},
		{of(text(0, "")), api.ErrBig},
		{of(el(0, "p"), text(1, "")), api.ErrBig},
		{of(text(1, "")), api.ErrRowsForm},
		{of(el(0, "")), api.ErrRowsForm},
	} {
		if roots, e := d.Load(c.l); len(roots) != 0 || e != c.want {
			t.Errorf("Load(%v): %v, %d, want %d", c.l, roots, e, c.want)
		}
	}
	for node := range 4097 {
		want := api.ErrBig
		if node == 0 || node == 4096 {
			want = api.ErrArenaNode
		}
		if n, e := d.Clone(node); n != 0 || e != want {
			t.Errorf("Clone(%d): %d, %d, want %d", node, n, e, want)
		}
	}
	if d.Len() != 4096 {
		t.Errorf("%d nodes", d.Len())
	}
	if e := d.Insert(0, 0, 4095); e != api.OK || d.Parent(4095) != 0 {
		t.Errorf("the last node can't be inserted: %d", e)
	}
	// Removing makes no room: no node is ever deleted.
	if e := d.Remove(4095); e != api.OK {
		t.Errorf("the last node can't be removed: %d", e)
	}
	if n, e := d.Make(api.KindText, "", ""); n != 0 || e != api.ErrBig {
		t.Errorf("Make behind the last node, one removed: %d, %d", n, e)
	}
}

// P11.1, P11.3: rows and copies that just go in, and those that are one too many.
func TestNearlyFull(t *testing.T) {
	tree := func(n int) []api.Row {
		l := of(el(0, "p"))
		for len(l) < n {
			l = append(l, text(1, "x"))
		}
		return l
	}
	for _, c := range []struct {
		nodes, more int
		want        api.Errno
	}{
		{1, 4095, api.OK}, {1, 4096, api.ErrBig}, {2, 4094, api.OK}, {2, 4095, api.ErrBig}, {2, 4096, api.ErrBig},
		{4095, 1, api.OK}, {4095, 2, api.ErrBig}, {4094, 2, api.OK}, {4094, 3, api.ErrBig}, {4096, 1, api.ErrBig}, {2048, 2048, api.OK}, {2048, 2049, api.ErrBig}, {2049, 2048, api.ErrBig},
	} {
		d := filled(t, c.nodes)
		roots, e := d.Load(tree(c.more))
		if e != c.want || (e == api.OK) != slices.Equal(roots, []int{c.nodes}) || (e != api.OK && (roots != nil || d.Len() != c.nodes)) || (e == api.OK && d.Len() != c.nodes+c.more) {
			t.Errorf("Load of %d rows into %d nodes: %v, %d, want %d", c.more, c.nodes, roots, e, c.want)
		}
	}
	for _, c := range []struct {
		nodes int // of the tree
		want  api.Errno
	}{{1, api.OK}, {2047, api.OK}, {2048, api.ErrBig}, {2049, api.ErrBig}, {4095, api.ErrBig}} {
		d := New()
		d.Load(tree(c.nodes))
		n, e := d.Clone(1)
		if e != c.want || (e == api.OK && (n != c.nodes+1 || d.Len() != 2*c.nodes+1 || !rows.Same(d.Rows(n), d.Rows(1)))) || (e != api.OK && (n != 0 || d.Len() != c.nodes+1)) {
			t.Errorf("Clone of a tree of %d nodes: %d, %d, want %d", c.nodes, n, e, c.want)
		}
	}
	d := New()
	d.Load(tree(2047))
	d.Make(api.KindText, "", "")
	if n, e := d.Clone(1); n != 2049 || e != api.OK || d.Len() != 4096 {
		t.Errorf("Clone up to the last node: %d, %d", n, e)
	}
}

// P11.1: rows that rows.Check rejects, and those with both faults.
func TestLoadErrors(t *testing.T) {
	deep := func(n int) []api.Row {
		var l []api.Row
		for i := range n {
			l = append(l, el(i, "p"))
		}
		return l
	}
	many := make([]api.Row, 4097)
	for i := range many {
		many[i] = text(0, "")
	}
	for i, l := range [][]api.Row{
		of(text(1, "")), of(el(-1, "p")), of(el(0, "p"), text(2, "")), of(text(0, "a"), text(1, "b")), of(note(0, "a"), el(1, "b")), of(el(0, "p"), el(-1, "q")),
		of(el(0, "")), of(api.Row{Name: "p", Data: "x"}), of(el(0, "p", attr("a", "1"), attr("a", "2"))), of(el(0, "p", attr("", ""), attr("", ""))),
		of(api.Row{Kind: api.KindText, Name: "p"}), of(api.Row{Kind: api.KindComment, Name: "p"}), of(api.Row{Kind: api.KindText, Attrs: []api.Attr{attr("a", "")}}), of(api.Row{Kind: api.KindComment, Attrs: []api.Attr{attr("a", "")}}),
		of(api.Row{Kind: 3}), of(api.Row{Kind: 3, Name: "p"}), of(api.Row{Kind: -1}), of(api.Row{Kind: -1, Name: "p"}), of(api.Row{}),
		of(el(math.MinInt, "p")), of(el(math.MaxInt, "p")), of(el(0, "p"), el(60, "p")), deep(61), deep(70), many, append(slices.Clone(many), text(3, "")),
		of(el(0, "p"), text(1, "x"), text(2, "y"), el(0, "")),
	} {
		x := family(t)
		before := seen(x.d)
		roots, e := x.d.Load(l)
		if e == api.OK || e != rows.Check(l) || roots != nil {
			t.Errorf("%d: Load(%v): %v, %d, want %d", i, l, roots, e, rows.Check(l))
		}
		if seen(x.d) != before {
			t.Errorf("%d: Load(%v): an error, and a change", i, l)
		}
	}
	x := newPair()
	x.load(t, deep(60))
	x.check(t)
	full := filled(t, 4090)
	if _, e := full.Load(deep(61)); e != api.ErrBig {
		t.Error(e)
	}
	if _, e := full.Load(append(deep(10), el(0, ""))); e != api.ErrRowsForm {
		t.Error(e)
	}
}

// P11.1: outcomes written out.
func TestLoad(t *testing.T) {
	d := New()
	for i, c := range []struct {
		l     []api.Row
		roots []int
	}{
		{nil, nil},
		{of(), nil},
		{of(text(0, "a")), []int{1}},
		{of(el(0, "p")), []int{2}},
		{of(note(0, "c"), text(0, ""), el(0, "q")), []int{3, 4, 5}},
		{of(el(0, "ul"), el(1, "li"), text(2, "a"), el(1, "li"), text(0, "b")), []int{6, 10}},
		{of(el(0, "P q", attr("A B", "1"), attr("", "2"), attr("a", "")), el(1, "\x00")), []int{11}},
		{of(text(0, "a"), text(0, "b")), []int{13, 14}},
	} {
		roots, e := d.Load(c.l)
		if !slices.Equal(roots, c.roots) || e != api.OK {
			t.Errorf("%d: Load(%v): %v, %d, want %v", i, c.l, roots, e, c.roots)
		}
		var all []api.Row
		for _, root := range roots {
			if d.Parent(root) != -1 || d.Within(root, 0) {
				t.Errorf("%d: root %d is not detached", i, root)
			}
			all = append(all, d.Rows(root)...)
		}
		if !rows.Same(all, c.l) {
			t.Errorf("%d: Load(%v): %v", i, c.l, all)
		}
	}
	if d.Len() != 15 || len(d.Kids(0)) != 0 || len(d.Rows(0)) != 0 {
		t.Error(seen(d))
	}
	for node, kids := range map[int][]int{6: {7, 9}, 7: {8}, 8: {}, 9: {}, 11: {12}} {
		if !slices.Equal(d.Kids(node), kids) {
			t.Errorf("Kids(%d): %v, want %v", node, d.Kids(node), kids)
		}
		for _, kid := range kids {
			if d.Parent(kid) != node {
				t.Errorf("Parent(%d): %d, want %d", kid, d.Parent(kid), node)
			}
		}
	}
	if !rows.Same(d.Rows(7), of(el(0, "li"), text(1, "a"))) {
		t.Error(d.Rows(7))
	}
}

// forests are all lists of valid rows of so many nodes, of each kind.
func forests(n int) [][]api.Row {
	all := [][]api.Row{nil}
	for range n {
		var next [][]api.Row
		for _, l := range all {
			deepest := 0
			if len(l) > 0 {
				last := l[len(l)-1]
				deepest = last.Depth
				if last.Kind == api.KindElement {
					deepest++
				}
			}
			for depth := 0; depth <= deepest; depth++ {
				at := strconv.Itoa(len(l))
				for _, row := range of(el(depth, "p"+at, attr("a", at)), text(depth, at), note(depth, at)) {
					next = append(next, append(slices.Clone(l), row))
				}
			}
		}
		all = next
	}
	return all
}

// P11.1, P11.5, P11.6: all trees of up to 4 nodes, loaded and inserted into the root.
func TestLoadAll(t *testing.T) {
	for n := range 5 {
		for _, l := range forests(n) {
			x := loaded(t, l...)
			if !rows.Same(x.d.Rows(0), l) {
				t.Fatalf("%v, loaded and inserted: %v", l, x.d.Rows(0))
			}
			for i := range l {
				sub, _ := rows.Take(l, i)
				var kids []int
				for _, kid := range rows.Kids(l, i) {
					kids = append(kids, kid+1)
				}
				if !rows.Same(x.d.Rows(i+1), sub) || !slices.Equal(x.d.Kids(i+1), kids) || x.d.Parent(i+1) != rows.Parent(l, i)+1 {
					t.Fatalf("%v: node %d: %v, %v, %d", l, i+1, x.d.Rows(i+1), x.d.Kids(i+1), x.d.Parent(i+1))
				}
			}
			if n < 4 {
				x.check(t)
			}
		}
	}
}

// P11.2: outcomes written out.
func TestInsert(t *testing.T) {
	x := family(t)
	for i, c := range []struct {
		parent, at, node int
		want             api.Errno
		kids             []int
	}{
		// Nodes that there are not, and the root.
		{-1, 0, 1, api.ErrArenaNode, nil},
		{14, 0, 1, api.ErrArenaNode, nil},
		{0, 0, 14, api.ErrArenaNode, []int{1, 7}},
		{0, 0, -1, api.ErrArenaNode, []int{1, 7}},
		{0, 0, 0, api.ErrArenaNode, []int{1, 7}},
		{1, 0, 0, api.ErrArenaNode, []int{2, 5, 6}},
		{3, 0, 0, api.ErrArenaNode, nil},
		{-1, -1, -1, api.ErrArenaNode, nil},
		{math.MaxInt, 0, math.MinInt, api.ErrArenaNode, nil},
		// Texts and comments as parents, itself, and its own tree.
		{3, 0, 13, api.ErrArenaTree, nil},
		{5, 0, 13, api.ErrArenaTree, nil},
		{7, 0, 12, api.ErrArenaTree, nil},
		{12, 0, 12, api.ErrArenaTree, nil},
		{3, -1, 13, api.ErrArenaTree, nil},
		{3, 9, 14, api.ErrArenaNode, nil},
		{1, 0, 1, api.ErrArenaTree, []int{2, 5, 6}},
		{2, 0, 1, api.ErrArenaTree, []int{3, 4}},
		{4, 0, 1, api.ErrArenaTree, nil},
		{4, 9, 1, api.ErrArenaTree, nil},
		{3, 0, 1, api.ErrArenaTree, nil},
		{13, 0, 13, api.ErrArenaTree, nil},
		{9, 0, 8, api.ErrArenaTree, []int{10}},
		// Places that there are not.
		{0, -1, 13, api.ErrArg, []int{1, 7}},
		{0, 3, 13, api.ErrArg, []int{1, 7}},
		{0, math.MinInt, 13, api.ErrArg, []int{1, 7}},
		{0, math.MaxInt, 13, api.ErrArg, []int{1, 7}},
		{0, 2, 1, api.ErrArg, []int{1, 7}},
		{0, 2, 7, api.ErrArg, []int{1, 7}},
		{1, 3, 2, api.ErrArg, []int{2, 5, 6}},
		{1, -1, 2, api.ErrArg, []int{2, 5, 6}},
		{6, 1, 13, api.ErrArg, nil},
		{13, 1, 1, api.ErrArg, nil},
		// Where they are, ahead of it and behind it.
		{1, 0, 2, api.OK, []int{2, 5, 6}},
		{1, 1, 2, api.OK, []int{5, 2, 6}},
		{1, 2, 2, api.OK, []int{5, 6, 2}},
		{1, 2, 2, api.OK, []int{5, 6, 2}},
		{1, 1, 2, api.OK, []int{5, 2, 6}},
		{1, 0, 6, api.OK, []int{6, 5, 2}},
		{1, 1, 6, api.OK, []int{5, 6, 2}},
		{1, 2, 5, api.OK, []int{6, 2, 5}},
		// Detached ones: at the beginning, between, at the end.
		{0, 0, 13, api.OK, []int{13, 1, 7}},
		{0, 1, 12, api.OK, []int{13, 12, 1, 7}},
		{0, 4, 11, api.OK, []int{13, 12, 1, 7, 11}},
		{6, 0, 8, api.OK, []int{8}},
		// From one parent to another.
		{13, 0, 3, api.OK, []int{3}},
		{13, 1, 11, api.OK, []int{3, 11}},
		{13, 1, 1, api.OK, []int{3, 1, 11}},
		{2, 1, 7, api.OK, []int{4, 7}},
		{2, 3, 5, api.ErrArg, []int{4, 7}},
		{2, 2, 5, api.OK, []int{4, 7, 5}},
		{4, 0, 13, api.ErrArenaTree, nil},
		{9, 0, 13, api.ErrArenaTree, []int{10}},
		{0, 0, 8, api.OK, []int{8, 13, 12}},
		{9, 1, 13, api.OK, []int{10, 13}},
		{0, 1, 4, api.OK, []int{8, 4, 12}},
	} {
		before := seen(x.d)
		e := x.d.Insert(c.parent, c.at, c.node)
		if e != c.want || !slices.Equal(x.d.Kids(c.parent), c.kids) {
			t.Errorf("%d: Insert(%d, %d, %d): %d, kids %v, want %d, %v", i, c.parent, c.at, c.node, e, x.d.Kids(c.parent), c.want, c.kids)
		}
		if e != api.OK && seen(x.d) != before {
			t.Errorf("%d: Insert(%d, %d, %d): an error, and a change", i, c.parent, c.at, c.node)
		}
		if e == api.OK && x.d.Parent(c.node) != c.parent {
			t.Errorf("%d: Insert(%d, %d, %d): parent %d", i, c.parent, c.at, c.node, x.d.Parent(c.node))
		}
		x.p.insert(c.parent, c.at, c.node)
		x.check(t)
	}
}

// steps are all calls that may change a document of a few nodes, each with the numbers of some nodes that there are not.
func steps(nodes int) []func(t *testing.T, x pair) {
	var all []func(t *testing.T, x pair)
	for node := -1; node <= nodes; node++ {
		all = append(all,
			func(t *testing.T, x pair) { x.remove(t, node) },
			func(t *testing.T, x pair) { x.clone(t, node) },
			func(t *testing.T, x pair) { x.attr(t, node, "a", "new") },
			func(t *testing.T, x pair) { x.drop(t, node, "a") },
			func(t *testing.T, x pair) { x.data(t, node, "new") },
		)
		for parent := -1; parent <= nodes; parent++ {
			for at := -1; at <= nodes; at++ {
				all = append(all, func(t *testing.T, x pair) { x.insert(t, parent, at, node) })
			}
		}
	}
	return all
}

// P11.2, P11.3, P11.4, P11.6, R2, R7: each call on all trees of up to 3 nodes, in the root and detached: what it changes, that an error changes nothing, and that a copy made ahead of it stays as it was.
func TestEachStep(t *testing.T) {
	for n := range 4 {
		todo := steps(n + 1)
		for _, l := range forests(n) {
			for _, in := range []bool{true, false} {
				start := newPair()
				start.load(t, l)
				for i, at := range rows.Kids(l, -1) {
					if in {
						start.insert(t, 0, i, at+1)
					}
				}
				before := seen(start.d)
				for _, step := range todo {
					x := start.copy()
					step(t, x)
					x.check(t)
					if seen(start.d) != before {
						t.Fatalf("%v: a step on a copy changes the original", l)
					}
				}
			}
		}
	}
}

// P11.2, P11.3: each two insertions, removals or copies in turn, on some trees.
func TestTwoSteps(t *testing.T) {
	for _, l := range [][]api.Row{
		of(el(0, "a"), el(1, "b"), el(0, "c")),
		of(el(0, "a"), el(0, "b"), el(0, "c")),
		of(el(0, "a"), el(1, "b"), el(2, "c")),
		of(el(0, "a"), text(1, "b"), note(1, "c")),
	} {
		start := newPair()
		start.load(t, l)
		start.insert(t, 0, 0, 1)
		todo := steps(len(l) + 1)
		for _, first := range todo {
			x := start.copy()
			first(t, x)
			for _, second := range todo {
				y := x.copy()
				second(t, y)
				if !slices.Equal(y.d.Kids(0), y.p.kids(0)) || !rows.Same(y.d.Rows(0), y.p.rows(0)) || !rows.Same(y.d.Rows(1), y.p.rows(1)) || y.d.Len() != len(y.p.what) {
					t.Fatalf("%v: two steps: %v, want %v", l, seen(y.d), y.p)
				}
			}
		}
	}
}

// P11.2: a node among many kids, from each place to each place.
func TestPlaces(t *testing.T) {
	const kids = 9
	for from := range kids {
		for to := -1; to <= kids; to++ {
			d := New()
			var want []int
			for i := range kids {
				n, _ := d.Make(api.KindText, "", strconv.Itoa(i))
				d.Insert(0, i, n)
				want = append(want, n)
			}
			e := d.Insert(0, to, from+1)
			if 0 <= to && to < kids {
				want = slices.Insert(slices.Delete(want, from, from+1), to, from+1)
			} else if e != api.ErrArg {
				t.Errorf("from %d to %d: %d", from, to, e)
			}
			if !slices.Equal(d.Kids(0), want) {
				t.Errorf("from %d to %d: %v, want %v", from, to, d.Kids(0), want)
			}
		}
	}
}

// P11.2: outcomes written out.
func TestRemove(t *testing.T) {
	x := family(t)
	for i, c := range []struct {
		node int
		want api.Errno
		root []int
	}{
		{0, api.ErrArenaNode, []int{1, 7}},
		{14, api.ErrArenaNode, []int{1, 7}},
		{-1, api.ErrArenaNode, []int{1, 7}},
		{math.MinInt, api.ErrArenaNode, []int{1, 7}},
		{math.MaxInt, api.ErrArenaNode, []int{1, 7}},
		{8, api.OK, []int{1, 7}},  // detached
		{13, api.OK, []int{1, 7}}, // detached
		{2, api.OK, []int{1, 7}},
		{2, api.OK, []int{1, 7}},
		{1, api.OK, []int{7}},
		{7, api.OK, nil},
		{9, api.OK, nil},
		{6, api.OK, nil},
		{4, api.OK, nil},
		{5, api.OK, nil},
	} {
		before := seen(x.d)
		e := x.d.Remove(c.node)
		if e != c.want || !slices.Equal(x.d.Kids(0), c.root) {
			t.Errorf("%d: Remove(%d): %d, kids of the root %v", i, c.node, e, x.d.Kids(0))
		}
		if e != api.OK && seen(x.d) != before {
			t.Errorf("%d: Remove(%d): an error, and a change", i, c.node)
		}
		if e == api.OK && (x.d.Parent(c.node) != -1 || x.d.Within(c.node, 0)) {
			t.Errorf("%d: Remove(%d): not detached", i, c.node)
		}
		x.p.remove(c.node)
		x.check(t)
	}
	if !rows.Same(x.d.Rows(1), of(el(0, "ul", attr("id", "1"), attr("class", "x")))) || !rows.Same(x.d.Rows(2), of(el(0, "li"), text(1, "a"))) {
		t.Error(seen(x.d))
	}
}

// P11.3, P11.6: outcomes written out; the copy is numbered in the order of the subtree, behind kids that were moved.
func TestClone(t *testing.T) {
	x := family(t)
	for _, node := range append([]int{0, 14}, odd...) {
		if n, e := x.d.Clone(node); n != 0 || e != api.ErrArenaNode || x.d.Len() != 14 {
			t.Errorf("Clone(%d): %d, %d", node, n, e)
		}
	}
	x.insert(t, 1, 0, 6)
	x.insert(t, 6, 0, 4)
	x.insert(t, 1, 1, 13)
	x.insert(t, 13, 0, 8)
	// Now 1 has 6 (4), 13 (8 (9 (10))), 2 (3), 5.
	n, e := x.d.Clone(1)
	if n != 14 || e != api.OK || x.d.Len() != 24 || x.d.Parent(14) != -1 {
		t.Fatal(n, e, x.d.Len())
	}
	x.p.clone(1)
	x.check(t)
	for i, node := range []int{1, 6, 4, 13, 8, 9, 10, 2, 3, 5} {
		is, _ := x.d.Row(14 + i)
		if want, _ := x.d.Row(node); !sameRow(is, want) {
			t.Errorf("node %d is %v, want the copy of %d, %v", 14+i, is, node, want)
		}
	}
	for node, kids := range map[int][]int{14: {15, 17, 21, 23}, 15: {16}, 16: nil, 17: {18}, 18: {19}, 19: {20}, 20: nil, 21: {22}, 22: nil, 23: nil, 1: {6, 13, 2, 5}} {
		if !slices.Equal(x.d.Kids(node), kids) {
			t.Errorf("Kids(%d): %v, want %v", node, x.d.Kids(node), kids)
		}
	}
	if !rows.Same(x.d.Rows(14), x.d.Rows(1)) || x.d.Within(14, 1) || x.d.Within(14, 0) {
		t.Error(seen(x.d))
	}
	// One node by itself, of each kind; a copy of a copy; each independent of what it is the copy of.
	for i, node := range []int{3, 5, 12, 7, 14} {
		n, e := x.d.Clone(node)
		if n != 24+i || e != api.OK || !rows.Same(x.d.Rows(n), x.d.Rows(node)) {
			t.Errorf("Clone(%d): %d, %d", node, n, e)
		}
		x.p.clone(node)
	}
	x.check(t)
	x.attr(t, 28, "id", "copy")
	x.attr(t, 14, "new", "")
	x.drop(t, 1, "class")
	x.data(t, 24, "copy")
	x.data(t, 5, "first")
	x.remove(t, 29)
	x.remove(t, 2)
	x.insert(t, 30, 0, 29)
	x.check(t)
}

// P11.4: outcomes written out, and all attributes behind each call.
func TestAttr(t *testing.T) {
	x := newPair()
	x.load(t, of(el(0, "p", attr("B", "1"), attr("", "2"), attr("c", "3")), text(0, "x"), note(0, "y"), el(0, "q")))
	x.insert(t, 0, 0, 4)
	for i, c := range []struct {
		node        int
		name, value string
		want        api.Errno
		is          []api.Attr
	}{
		{1, "c", "4", api.OK, []api.Attr{attr("B", "1"), attr("", "2"), attr("c", "4")}},
		{1, "b", "5", api.OK, []api.Attr{attr("B", "1"), attr("", "2"), attr("c", "4"), attr("b", "5")}},
		{1, "b", "", api.OK, []api.Attr{attr("B", "1"), attr("", "2"), attr("c", "4"), attr("b", "")}},
		{1, "c", "c", api.OK, []api.Attr{attr("B", "1"), attr("", "2"), attr("c", "c"), attr("b", "")}},
		// Names that may not be, those that it has too.
		{1, "B", "6", api.ErrArg, []api.Attr{attr("B", "1"), attr("", "2"), attr("c", "c"), attr("b", "")}},
		{1, "", "6", api.ErrArg, []api.Attr{attr("B", "1"), attr("", "2"), attr("c", "c"), attr("b", "")}},
		{4, "", "", api.ErrArg, nil},
		{4, "A", "", api.ErrArg, nil},
		{4, "a b", "", api.ErrArg, nil},
		{4, "a=", "", api.ErrArg, nil},
		{4, "a\"", "", api.ErrArg, nil},
		{4, "<", "", api.ErrArg, nil},
		{4, "a", "\x00<>\"'= \xff", api.OK, []api.Attr{attr("a", "\x00<>\"'= \xff")}},
		{4, "onclick", "x", api.OK, []api.Attr{attr("a", "\x00<>\"'= \xff"), attr("onclick", "x")}},
		{4, "1", "x", api.OK, []api.Attr{attr("a", "\x00<>\"'= \xff"), attr("onclick", "x"), attr("1", "x")}},
		{4, "a", "y", api.OK, []api.Attr{attr("a", "y"), attr("onclick", "x"), attr("1", "x")}},
		{4, "onclick", "z", api.OK, []api.Attr{attr("a", "y"), attr("onclick", "z"), attr("1", "x")}},
		// No elements; ahead of the name.
		{2, "a", "", api.ErrArenaNode, nil},
		{3, "a", "", api.ErrArenaNode, nil},
		{0, "a", "", api.ErrArenaNode, nil},
		{5, "a", "", api.ErrArenaNode, nil},
		{-1, "a", "", api.ErrArenaNode, nil},
		{math.MinInt, "a", "", api.ErrArenaNode, nil},
		{math.MaxInt, "a", "", api.ErrArenaNode, nil},
		{0, "A", "", api.ErrArenaNode, nil},
		{2, "", "", api.ErrArenaNode, nil},
		{5, "A", "", api.ErrArenaNode, nil},
	} {
		before := seen(x.d)
		e := x.d.Attr(c.node, c.name, c.value)
		row, _ := x.d.Row(c.node)
		if e != c.want || !slices.Equal(row.Attrs, c.is) {
			t.Errorf("%d: Attr(%d, %q, %q): %d, %v, want %d, %v", i, c.node, c.name, c.value, e, row.Attrs, c.want, c.is)
		}
		if e != api.OK && seen(x.d) != before {
			t.Errorf("%d: Attr(%d, %q, %q): an error, and a change", i, c.node, c.name, c.value)
		}
		x.p.attr(c.node, c.name, c.value)
		x.check(t)
	}
}

// P11.4: each byte as an attribute's name, and ahead of, in and behind one.
func TestAttrNames(t *testing.T) {
	x := newPair()
	x.make(t, api.KindElement, "p", "")
	x.make(t, api.KindText, "", "x")
	for c := range 256 {
		b := string([]byte{byte(c)})
		for _, name := range []string{b, b + "a", "a" + b, "a" + b + "a"} {
			e := x.d.Attr(1, name, b)
			if names.Attr(name) != (e == api.OK) || (e != api.OK && e != api.ErrArg) {
				t.Errorf("Attr of %q: %d", name, e)
			}
			x.p.attr(1, name, b)
			x.attr(t, 2, name, b)
		}
	}
	x.check(t)
	for c := range 256 {
		b := string([]byte{byte(c)})
		x.drop(t, 1, b)
		x.drop(t, 1, "a"+b)
		x.drop(t, 2, b)
	}
	x.check(t)
}

// P11.4: outcomes written out.
func TestDrop(t *testing.T) {
	x := newPair()
	x.load(t, of(el(0, "p", attr("a", "1"), attr("B", "2"), attr("", "3"), attr("d", "4"), attr("e", "5")), text(0, "x"), note(0, "y"), el(0, "q")))
	for i, c := range []struct {
		node int
		name string
		want api.Errno
		is   []api.Attr
	}{
		{1, "c", api.ErrArg, []api.Attr{attr("a", "1"), attr("B", "2"), attr("", "3"), attr("d", "4"), attr("e", "5")}},
		{1, "A", api.ErrArg, []api.Attr{attr("a", "1"), attr("B", "2"), attr("", "3"), attr("d", "4"), attr("e", "5")}},
		{1, "b", api.ErrArg, []api.Attr{attr("a", "1"), attr("B", "2"), attr("", "3"), attr("d", "4"), attr("e", "5")}},
		{1, " ", api.ErrArg, []api.Attr{attr("a", "1"), attr("B", "2"), attr("", "3"), attr("d", "4"), attr("e", "5")}},
		{1, "1", api.ErrArg, []api.Attr{attr("a", "1"), attr("B", "2"), attr("", "3"), attr("d", "4"), attr("e", "5")}},
		{1, "d", api.OK, []api.Attr{attr("a", "1"), attr("B", "2"), attr("", "3"), attr("e", "5")}},
		{1, "d", api.ErrArg, []api.Attr{attr("a", "1"), attr("B", "2"), attr("", "3"), attr("e", "5")}},
		{1, "", api.OK, []api.Attr{attr("a", "1"), attr("B", "2"), attr("e", "5")}},
		{1, "", api.ErrArg, []api.Attr{attr("a", "1"), attr("B", "2"), attr("e", "5")}},
		{1, "B", api.OK, []api.Attr{attr("a", "1"), attr("e", "5")}},
		{1, "a", api.OK, []api.Attr{attr("e", "5")}},
		{1, "e", api.OK, nil},
		{1, "e", api.ErrArg, nil},
		{4, "a", api.ErrArg, nil},
		{4, "", api.ErrArg, nil},
		{2, "a", api.ErrArenaNode, nil},
		{2, "", api.ErrArenaNode, nil},
		{3, "a", api.ErrArenaNode, nil},
		{0, "a", api.ErrArenaNode, nil},
		{0, "", api.ErrArenaNode, nil},
		{5, "a", api.ErrArenaNode, nil},
		{-1, "a", api.ErrArenaNode, nil},
		{math.MinInt, "a", api.ErrArenaNode, nil},
		{math.MaxInt, "a", api.ErrArenaNode, nil},
	} {
		before := seen(x.d)
		e := x.d.Drop(c.node, c.name)
		row, _ := x.d.Row(c.node)
		if e != c.want || !slices.Equal(row.Attrs, c.is) {
			t.Errorf("%d: Drop(%d, %q): %d, %v, want %d, %v", i, c.node, c.name, e, row.Attrs, c.want, c.is)
		}
		if e != api.OK && seen(x.d) != before {
			t.Errorf("%d: Drop(%d, %q): an error, and a change", i, c.node, c.name)
		}
		x.p.drop(c.node, c.name)
		x.check(t)
	}
}

// P11.4: attributes dropped and set again, in all orders: the one that is set again stands last.
func TestDropAndAttr(t *testing.T) {
	letters := []string{"a", "b", "c", "d"}
	for i := range 256 {
		x := newPair()
		x.load(t, of(el(0, "p", attr("a", "1"), attr("b", "2"), attr("c", "3"), attr("d", "4"))))
		for j := range 4 {
			x.drop(t, 1, letters[i>>(2*j)&3])
		}
		for j := range 4 {
			x.attr(t, 1, letters[i>>(2*j)&3], strconv.Itoa(j))
		}
		x.check(t)
	}
}

// P11.4: outcomes written out.
func TestData(t *testing.T) {
	x := family(t)
	for i, c := range []struct {
		node int
		data string
		want api.Errno
	}{
		{3, "new", api.OK}, {3, "", api.OK}, {3, "<b>\x00\xff", api.OK}, {5, "new", api.OK}, {5, "-->", api.OK}, {5, "", api.OK}, {7, "new", api.OK}, {10, "x", api.OK}, {11, "x", api.OK}, {12, "x", api.OK},
		{0, "new", api.ErrArenaNode}, {0, "", api.ErrArenaNode}, {1, "new", api.ErrArenaNode}, {1, "", api.ErrArenaNode}, {13, "x", api.ErrArenaNode}, {8, "x", api.ErrArenaNode},
		{14, "x", api.ErrArenaNode}, {-1, "x", api.ErrArenaNode}, {math.MinInt, "x", api.ErrArenaNode}, {math.MaxInt, "x", api.ErrArenaNode},
	} {
		before := seen(x.d)
		e := x.d.Data(c.node, c.data)
		row, _ := x.d.Row(c.node)
		if e != c.want || e == api.OK && row.Data != c.data {
			t.Errorf("%d: Data(%d, %q): %d, %q, want %d", i, c.node, c.data, e, row.Data, c.want)
		}
		if e != api.OK && seen(x.d) != before {
			t.Errorf("%d: Data(%d, %q): an error, and a change", i, c.node, c.data)
		}
		x.p.data(c.node, c.data)
		x.check(t)
	}
}

// P11.5: outcomes written out, of each node of the family and of what is none.
func TestLook(t *testing.T) {
	d := family(t).d
	if d.Len() != 14 {
		t.Errorf("Len: %d", d.Len())
	}
	for node, parent := range []int{-1, 0, 1, 2, 2, 1, 1, 0, -1, 8, 9, -1, -1, -1} {
		if d.Parent(node) != parent {
			t.Errorf("Parent(%d): %d, want %d", node, d.Parent(node), parent)
		}
	}
	for node, kids := range [][]int{{1, 7}, {2, 5, 6}, {3, 4}, nil, nil, nil, nil, nil, {9}, {10}, nil, nil, nil, nil} {
		if !slices.Equal(d.Kids(node), kids) {
			t.Errorf("Kids(%d): %v, want %v", node, d.Kids(node), kids)
		}
	}
	for node, want := range of(api.Row{}, el(0, "ul", attr("id", "1"), attr("class", "x")), el(0, "li"), text(0, "a"), el(0, "b", attr("id", "2")), note(0, "c"), el(0, "li"), text(0, "d"), el(0, "div"), el(0, "p", attr("title", "")), text(0, "e"), note(0, "f"), text(0, ""), el(0, "i")) {
		if is, e := d.Row(node); !sameRow(is, want) || e != api.OK {
			t.Errorf("Row(%d): %v, %d, want %v", node, is, e, want)
		}
	}
	for node, want := range map[int][]api.Row{
		0:  of(el(0, "ul", attr("id", "1"), attr("class", "x")), el(1, "li"), text(2, "a"), el(2, "b", attr("id", "2")), note(1, "c"), el(1, "li"), text(0, "d")),
		1:  of(el(0, "ul", attr("id", "1"), attr("class", "x")), el(1, "li"), text(2, "a"), el(2, "b", attr("id", "2")), note(1, "c"), el(1, "li")),
		2:  of(el(0, "li"), text(1, "a"), el(1, "b", attr("id", "2"))),
		3:  of(text(0, "a")),
		5:  of(note(0, "c")),
		6:  of(el(0, "li")),
		8:  of(el(0, "div"), el(1, "p", attr("title", "")), text(2, "e")),
		9:  of(el(0, "p", attr("title", "")), text(1, "e")),
		11: of(note(0, "f")),
		12: of(text(0, "")),
	} {
		if is := d.Rows(node); !rows.Same(is, want) {
			t.Errorf("Rows(%d): %v, want %v", node, is, want)
		}
	}
	for node, others := range [][]int{{0}, {0, 1}, {0, 1, 2}, {0, 1, 2, 3}, {0, 1, 2, 4}, {0, 1, 5}, {0, 1, 6}, {0, 7}, {8}, {8, 9}, {8, 9, 10}, {11}, {12}, {13}} {
		for other := range 14 {
			if is := d.Within(node, other); is != slices.Contains(others, other) {
				t.Errorf("Within(%d, %d): %t", node, other, is)
			}
		}
	}
	for _, node := range append([]int{14, 15}, odd...) {
		row, e := d.Row(node)
		if d.Parent(node) != -1 || d.Kids(node) != nil || d.Rows(node) != nil || !sameRow(row, api.Row{}) || e != api.ErrArenaNode {
			t.Errorf("%d: there is no such node", node)
		}
		for other := range 14 {
			if d.Within(node, other) || d.Within(other, node) || d.Within(node, node) {
				t.Errorf("Within of %d, which is no node, and %d", node, other)
			}
		}
		for _, other := range odd {
			if d.Within(node, other) {
				t.Errorf("Within(%d, %d): neither is a node", node, other)
			}
		}
	}
}

// P11.2, P11.3, P11.5: a tree as deep as there are nodes, and its copy.
func TestDeep(t *testing.T) {
	const depth = 2047
	d := New()
	for i := range depth {
		n, _ := d.Make(api.KindElement, "p", "")
		if e := d.Insert(i, 0, n); e != api.OK {
			t.Fatalf("Insert(%d, 0, %d): %d", i, n, e)
		}
	}
	checkChain := func(l []api.Row) {
		t.Helper()
		if len(l) != depth {
			t.Fatalf("%d rows, want %d", len(l), depth)
		}
		for i, row := range l {
			if !sameRow(row, el(i, "p")) {
				t.Fatalf("row %d: %v", i, row)
			}
		}
	}
	checkChain(d.Rows(0))
	checkChain(d.Rows(1))
	for _, i := range []int{1, 2, 59, 60, 61, 1000, depth} {
		if !d.Within(depth, i) || !d.Within(i, 0) || d.Within(i-1, i) || d.Insert(depth, 0, i) != api.ErrArenaTree || d.Insert(i, 0, 1) != api.ErrArenaTree {
			t.Errorf("node %d of a deep tree", i)
		}
	}
	n, e := d.Clone(1)
	if n != depth+1 || e != api.OK {
		t.Fatal(n, e)
	}
	checkChain(d.Rows(n))
	// The copy below the first one: as deep as it can be, and out again.
	if e := d.Insert(depth, 0, n); e != api.OK || !d.Within(2*depth, 1) || len(d.Rows(0)) != 2*depth {
		t.Errorf("the copy below its original: %d", e)
	}
	if row := d.Rows(0)[2*depth-1]; row.Depth != 2*depth-1 {
		t.Errorf("the deepest row: %v", row)
	}
	c := d.Copy()
	if e := d.Remove(61); e != api.OK || len(d.Rows(0)) != 60 || len(d.Rows(61)) != 2*depth-60 || len(c.Rows(0)) != 2*depth {
		t.Errorf("Remove in a deep tree: %d", e)
	}
}

// P11.1, P11.2: as many nodes as there may be as kids of one, put ahead of all, behind all and between, and taken out again.
func TestWide(t *testing.T) {
	d := filled(t, 4096)
	var want []int
	for node := 1; node < 4096; node++ {
		at := []int{0, len(want), len(want) / 2}[node%3]
		if e := d.Insert(0, at, node); e != api.OK {
			t.Fatalf("Insert(0, %d, %d): %d", at, node, e)
		}
		want = slices.Insert(want, at, node)
	}
	if !slices.Equal(d.Kids(0), want) || len(d.Rows(0)) != 4095 {
		t.Fatal("the kids are not those that were inserted")
	}
	for node := 1; node < 4096; node += 2 {
		d.Remove(node)
	}
	want = slices.DeleteFunc(want, func(node int) bool { return node%2 == 1 })
	if !slices.Equal(d.Kids(0), want) {
		t.Fatal("the kids are not those that were left")
	}
}

// P11.4: thousands of attributes, none of which is slow.
func TestManyAttributes(t *testing.T) {
	const many = 5000
	d := New()
	d.Make(api.KindElement, "p", "")
	for i := range many {
		d.Attr(1, "a"+strconv.Itoa(i), "x")
	}
	for i := 0; i < many; i += 2 {
		if e := d.Drop(1, "a"+strconv.Itoa(i)); e != api.OK {
			t.Fatal(e)
		}
	}
	row, _ := d.Row(1)
	if len(row.Attrs) != many/2 {
		t.Fatal(len(row.Attrs))
	}
	for i, a := range row.Attrs {
		if a != attr("a"+strconv.Itoa(2*i+1), "x") {
			t.Fatal(i, a)
		}
	}
}

// all are the rows of trees of a kind that random steps load.
var all = [][]api.Row{
	nil,
	{text(0, "x")},
	{el(0, "P", attr("A", "1"), attr("b", "2")), note(1, "y")},
	{el(0, "p"), el(1, "q"), el(2, "r"), text(3, "z"), text(1, ""), el(0, "s")},
	{text(1, "")},
	{el(0, "")},
}

// randomStep does a call with some arguments to both.
func randomStep(t *testing.T, r *rand.Rand, x pair) {
	t.Helper()
	node := func() int { return r.IntN(x.d.Len()+3) - 1 }
	name := []string{"a", "b", "A", "", "c"}[r.IntN(5)]
	switch r.IntN(14) {
	case 0:
		x.make(t, r.IntN(5)-1, []string{"", "p", "P"}[r.IntN(3)], []string{"", "x"}[r.IntN(2)])
	case 1:
		x.load(t, all[r.IntN(len(all))])
	case 2:
		x.remove(t, node())
	case 3:
		if x.d.Len() < 30 {
			x.clone(t, node())
		}
	case 4:
		x.attr(t, node(), name, strconv.Itoa(r.IntN(9)))
	case 5:
		x.drop(t, node(), name)
	case 6:
		x.data(t, node(), strconv.Itoa(r.IntN(9)))
	default:
		parent := node()
		x.insert(t, parent, r.IntN(len(x.d.Kids(parent))+3)-1, node())
	}
}

// P11.1 to P11.6, R2, R5, R7: some thousands of calls in turn, held against the plain document behind each; a copy made on the way stays as it was, and does the same from there on.
func TestRandomSteps(t *testing.T) {
	for seed := range uint64(60) {
		r := rand.New(rand.NewPCG(seed, 11))
		x := newPair()
		kept, keptSeen := x.copy(), seen(x.d)
		for i := range 60 {
			randomStep(t, r, x)
			x.check(t)
			if i%10 == 9 {
				if seen(kept.d) != keptSeen {
					t.Fatalf("seed %d, step %d: the copy is not as it was", seed, i)
				}
				kept.check(t)
				kept, keptSeen = x.copy(), seen(x.d)
				if seen(kept.d) != keptSeen {
					t.Fatalf("seed %d, step %d: the copy is not the same", seed, i)
				}
			}
		}
	}
}

// P11.5, R7: a copy is the same; whatever is done to it leaves the original as it was, and whatever is done to the original leaves it as it was.
func TestCopy(t *testing.T) {
	for i, change := range []func(t *testing.T, x pair){
		func(t *testing.T, x pair) { x.make(t, api.KindElement, "p", "") },
		func(t *testing.T, x pair) { x.load(t, all[3]) },
		func(t *testing.T, x pair) { x.insert(t, 1, 0, 13) },
		func(t *testing.T, x pair) { x.insert(t, 1, 3, 13) },
		func(t *testing.T, x pair) { x.insert(t, 1, 2, 2) },
		func(t *testing.T, x pair) { x.insert(t, 0, 0, 7) },
		func(t *testing.T, x pair) { x.remove(t, 6); x.remove(t, 4) },
		func(t *testing.T, x pair) { x.remove(t, 6); x.insert(t, 1, 2, 12) },
		func(t *testing.T, x pair) { x.clone(t, 1) },
		func(t *testing.T, x pair) { x.attr(t, 1, "id", "new") },
		func(t *testing.T, x pair) { x.attr(t, 1, "new", "new") },
		func(t *testing.T, x pair) { x.drop(t, 1, "class"); x.attr(t, 1, "other", "new") },
		func(t *testing.T, x pair) { x.drop(t, 1, "id") },
		func(t *testing.T, x pair) { x.data(t, 3, "new"); x.data(t, 5, "new") },
	} {
		first := family(t)
		before := seen(first.d)
		second := first.copy()
		if seen(second.d) != before {
			t.Fatalf("the copy is not the same: %v", seen(second.d))
		}
		third := second.copy()
		change(t, second)
		second.check(t)
		if seen(first.d) != before || seen(third.d) != before {
			t.Errorf("%d: a change of a copy changes another document", i)
		}
		change(t, first)
		first.check(t)
		if seen(third.d) != before {
			t.Errorf("%d: a change of the original changes a copy of its copy", i)
		}
		change(t, third)
		if seen(first.d) != seen(second.d) || seen(first.d) != seen(third.d) {
			t.Errorf("%d: the same call, and not the same outcome", i)
		}
	}
}

// Documents are independent of each other from the start on.
func TestTwoDocuments(t *testing.T) {
	a, b := New(), New()
	a.Make(api.KindElement, "p", "")
	a.Insert(0, 0, 1)
	if b.Len() != 1 || len(b.Kids(0)) != 0 {
		t.Error(seen(b))
	}
	if n, e := b.Make(api.KindText, "", "x"); n != 1 || e != api.OK {
		t.Error(n, e)
	}
	if row, _ := a.Row(1); row.Name != "p" {
		t.Error(row)
	}
}

// The chapter's examples.
func TestExamples(t *testing.T) {
	d := New()
	if n, e := d.Make(api.KindElement, "p", ""); n != 1 || e != api.OK {
		t.Error(n, e)
	}
	if e := d.Insert(0, 0, 1); e != api.OK {
		t.Error(e)
	}
	if e := d.Insert(1, 0, 1); e != api.ErrArenaTree {
		t.Error(e)
	}
	if !rows.Same(d.Rows(0), of(el(0, "p"))) {
		t.Error(d.Rows(0))
	}
}

// The chapter names all that the package imports.
func TestImports(t *testing.T) {
	f, err := parser.ParseFile(token.NewFileSet(), "arena.go", nil, parser.ImportsOnly)
	if err != nil {
		t.Fatal(err)
	}
	for _, s := range f.Imports {
		if !slices.Contains([]string{`"bolting/api"`, `"bolting/names"`, `"bolting/rows"`}, s.Path.Value) {
			t.Errorf("imports %s", s.Path.Value)
		}
	}
}
