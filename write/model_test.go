package write

import (
	"fmt"
	"regexp"
	"slices"
	"strings"
	"testing"
	"unicode/utf8"

	"bolting/api"
	"bolting/build"
	"bolting/names"
	"bolting/rows"
)

// The chapters' lists of names.
var (
	voidNames = strings.Fields("area base br col embed hr img input link meta param source track wbr")
	rawNames  = strings.Fields("iframe noembed noframes script style xmp")
	softNames = strings.Fields("textarea title")
	goneNames = strings.Fields("body frameset head html")
	// Names that are in none of these lists.
	otherNames = strings.Fields("a b p li dd dt td tr tbody table template button option optgroup select plaintext noscript pre svg brr scripts titles x-y")
)

// node is a node as a tree has it. What has the roots as its kids is one too.
type node struct {
	row    api.Row
	parent *node
	kids   []*node
}

// treeOf reads valid rows: the parent of a row is the last one ahead of it that is one level higher. The nodes are in the order of the rows.
func treeOf(l []api.Row) (top *node, all []*node) {
	top = &node{row: api.Row{Depth: -1, Kind: -1}}
	last := map[int]*node{-1: top}
	for _, row := range l {
		n := &node{row: row, parent: last[row.Depth-1]}
		n.parent.kids = append(n.parent.kids, n)
		last[row.Depth] = n
		all = append(all, n)
	}
	return top, all
}

func (n *node) named(list []string) bool {
	return n.row.Kind == api.KindElement && slices.Contains(list, n.row.Name)
}

// inside is the text of the kids.
func (n *node) inside() string {
	var b strings.Builder
	for _, kid := range n.kids {
		b.WriteString(kid.written())
	}
	return b.String()
}

func escapedText(s string) string {
	return strings.NewReplacer("&", "&amp;", "<", "&lt;", ">", "&gt;", "\u00a0", "&nbsp;").Replace(s)
}

func escapedValue(s string) string {
	return strings.ReplaceAll(escapedText(s), `"`, "&quot;")
}

// written is what P8.1 says of a node.
func (n *node) written() string {
	row := n.row
	switch {
	case row.Kind == api.KindText && n.parent.named(rawNames):
		return row.Data
	case row.Kind == api.KindText:
		return escapedText(row.Data)
	case row.Kind == api.KindComment:
		return "<!--" + row.Data + "-->"
	}
	s := "<" + row.Name
	for _, a := range row.Attrs {
		s += fmt.Sprintf(` %s="%s"`, a.Name, escapedValue(a.Value))
	}
	if n.named(voidNames) {
		return s + ">"
	}
	return s + ">" + n.inside() + "</" + row.Name + ">"
}

// wantRows is P8.1 for valid rows.
func wantRows(l []api.Row) string {
	top, _ := treeOf(l)
	return top.inside()
}

// wantInside is P8.1 for valid rows.
func wantInside(l []api.Row, i int) string {
	top, all := treeOf(l)
	switch {
	case i == -1:
		return top.inside()
	case i < 0 || i >= len(all) || l[i].Kind != api.KindElement || all[i].named(voidNames):
		return ""
	}
	return all[i].inside()
}

var (
	elementName = regexp.MustCompile(`\A[a-z][^ \t\n\f\r/>\x00A-Z]*\z`)
	attrName    = regexp.MustCompile(`\A[^ \t\n\f\r/>\x00A-Z"'<=]+\z`)
	endsEarly   = regexp.MustCompile(`-->|--!>|\A>|\A->`)
)

// broken are the numbers of the points of P8.2 that do not hold. Of rows that are not valid no more than the first is asked.
func broken(l []api.Row) []int {
	if rows.Check(l) != api.OK {
		return []int{1}
	}
	holds := make([]bool, 6)
	for i := range holds {
		holds[i] = true
	}
	holds[1] = rows.Same(l, rows.Normal(l))
	_, all := treeOf(l)
	for _, n := range all {
		holds[2] = holds[2] && n.namesHold()
		holds[3] = holds[3] && n.kidsHold()
		holds[4] = holds[4] && (n.row.Kind != api.KindComment || !endsEarly.MatchString(n.row.Data))
		holds[5] = holds[5] && n.bytesHold()
	}
	var out []int
	for i := 1; i <= 5; i++ {
		if !holds[i] {
			out = append(out, i)
		}
	}
	return out
}

// namesHold is the second point.
func (n *node) namesHold() bool {
	if n.row.Kind != api.KindElement {
		return true
	}
	var around []string
	for x := n.parent; x.parent != nil; x = x.parent {
		around = slices.Insert(around, 0, x.row.Name)
	}
	for _, a := range n.row.Attrs {
		if !attrName.MatchString(a.Name) {
			return false
		}
	}
	return elementName.MatchString(n.row.Name) && !n.named(goneNames) && build.Nested(n.row.Name, around)
}

// kidsHold is the third point.
func (n *node) kidsHold() bool {
	switch {
	case n.named(voidNames):
		return len(n.kids) == 0
	case !n.named(rawNames) && !n.named(softNames) || len(n.kids) == 0:
		return true
	case len(n.kids) > 1 || n.kids[0].row.Kind != api.KindText:
		return false
	}
	data := n.kids[0].row.Data
	return n.named(softNames) || !strings.Contains(data, "</") && !strings.HasSuffix(data, "<")
}

// bytesHold is the fifth point.
func (n *node) bytesHold() bool {
	all := []string{n.row.Name, n.row.Data}
	for _, a := range n.row.Attrs {
		all = append(all, a.Name, a.Value)
	}
	return !slices.ContainsFunc(all, func(s string) bool { return !utf8.ValidString(s) || strings.ContainsAny(s, "\x00\r") })
}

// plain writes rows down so that two are the same just if what is written is: no nil is told from an empty list.
func plain(l []api.Row) string {
	var b strings.Builder
	for _, x := range l {
		fmt.Fprintf(&b, "[%d %d %q %q", x.Depth, x.Kind, x.Name, x.Data)
		for _, a := range x.Attrs {
			fmt.Fprintf(&b, " %q=%q", a.Name, a.Value)
		}
		b.WriteString("]")
	}
	return b.String()
}

// brief writes the first rows down.
func brief(l []api.Row) string {
	return fmt.Sprintf("%d rows %.400s", len(l), plain(l[:min(len(l), 12)]))
}

// checkRows is all that the chapter says of valid rows.
func checkRows(t *testing.T, l []api.Row) {
	t.Helper()
	s := Rows(l)
	if want := wantRows(l); s != want {
		t.Errorf("%s: written %.400q, want %.400q", brief(l), s, want)
	}
	for i := -3; i < len(l)+3; i++ {
		if got, want := Inside(l, i), wantInside(l, i); got != want {
			t.Errorf("%s: in %d %.400q, want %.400q", brief(l), i, got, want)
		}
	}
	checkLegal(t, l)
}

// checkLegal is P8.2 for any rows, and P8.3 for legal ones.
func checkLegal(t *testing.T, l []api.Row) {
	t.Helper()
	points := broken(l)
	if got := Legal(l); got != (len(points) == 0) {
		t.Errorf("%s: legal %t, the points that do not hold are %v", brief(l), got, points)
	}
	if len(points) > 0 {
		return
	}
	s := Rows(l)
	back, e := build.Parse(s)
	switch {
	case len(s) > 65536:
		if e != api.ErrBig {
			t.Errorf("%s: %d bytes parsed, %d", brief(l), len(s), e)
		}
	case e != api.OK || plain(back) != plain(l):
		t.Errorf("%s: comes back from %.400q as %s, %d", brief(l), s, brief(back), e)
	}
}

// checkParsed is P8.3 for any bytes.
func checkParsed(t *testing.T, s string) {
	t.Helper()
	l, e := build.Parse(s)
	if e != api.OK {
		return
	}
	checkRows(t, l)
	written := Rows(l)
	back, e := build.Parse(written)
	switch {
	case len(written) > 65536:
		if e != api.ErrBig {
			t.Errorf("%.100q: %d bytes parsed, %d", s, len(written), e)
		}
	case e != api.OK || plain(back) != plain(l):
		t.Errorf("%.100q: %s, written %.400q, comes back as %s, %d", s, brief(l), written, brief(back), e)
	}
}

func el(depth int, name string, attrs ...api.Attr) api.Row {
	return api.Row{Depth: depth, Kind: api.KindElement, Name: name, Attrs: attrs}
}

func text(depth int, s string) api.Row { return api.Row{Depth: depth, Kind: api.KindText, Data: s} }

func note(depth int, s string) api.Row {
	return api.Row{Depth: depth, Kind: api.KindComment, Data: s}
}

func attr(name, value string) api.Attr { return api.Attr{Name: name, Value: value} }

// of is a list of rows.
func of(l ...api.Row) []api.Row { return l }

// listsOf are all lists of at most n rows of from at the depths from low to high.
func listsOf(from []api.Row, n, low, high int) [][]api.Row {
	lists := [][]api.Row{nil}
	for start := 0; n > 0; n-- {
		end := len(lists)
		for _, l := range lists[start:end] {
			for _, row := range from {
				for row.Depth = low; row.Depth <= high; row.Depth++ {
					lists = append(lists, append(slices.Clone(l), row))
				}
			}
		}
		start = end
	}
	return lists
}

// treesOf are all valid ones of at most n rows of from, the texts side by side too.
func treesOf(from []api.Row, n int) [][]api.Row {
	lists := [][]api.Row{nil}
	for start := 0; n > 0; n-- {
		end := len(lists)
		for _, l := range lists[start:end] {
			deepest := 0
			if k := len(l) - 1; k >= 0 {
				deepest = l[k].Depth
				if l[k].Kind == api.KindElement {
					deepest++
				}
			}
			for _, row := range from {
				for row.Depth = 0; row.Depth <= deepest; row.Depth++ {
					lists = append(lists, append(slices.Clone(l), row))
				}
			}
		}
		start = end
	}
	return lists
}

// textsOf are all texts of at most n of the pieces.
func textsOf(pieces []string, n int) []string {
	texts := []string{""}
	for start := 0; n > 0; n-- {
		end := len(texts)
		for _, s := range texts[start:end] {
			for _, piece := range pieces {
				texts = append(texts, s+piece)
			}
		}
		start = end
	}
	return texts
}

// chain are so many elements, each within the one before it.
func chain(n int, names ...string) []api.Row {
	out := make([]api.Row, 0, n)
	for i := range n {
		out = append(out, el(i, names[i%len(names)]))
	}
	return out
}

// allNames are names of each list.
func allNames() []string {
	return slices.Concat(voidNames, rawNames, softNames, goneNames, otherNames)
}

// modelNames holds the model's lists against package names.
func modelNames(t *testing.T) {
	for _, name := range allNames() {
		n := &node{row: el(0, name)}
		if n.named(voidNames) != names.Void(name) || n.named(rawNames) != names.Raw(name) || n.named(softNames) != names.Soft(name) || n.named(goneNames) != names.Gone(name) {
			t.Errorf("%q is in other lists", name)
		}
	}
}
