package settle

import (
	"fmt"
	"slices"
	"strings"

	"bolting/api"
	"bolting/build"
	"bolting/clean"
	"bolting/rows"
	"bolting/write"
)

// wantStable tells whether trees are what is read of what is written of them.
func wantStable(l []api.Row) bool {
	back, e := build.Parse(write.Rows(l))
	return e == api.OK && plain(back) == plain(l)
}

// wantTrees is the model that Trees is held against.
func wantTrees(l []api.Row, c api.Conf, safely bool) ([]api.Row, int, api.Errno) {
	out, e := clean.Rows(l, c, safely)
	if e != api.OK {
		return nil, 0, e
	}
	return wantFrom(1, out, c, safely)
}

// wantFrom is how it goes on with what a round filtered.
func wantFrom(round int, out []api.Row, c api.Conf, safely bool) ([]api.Row, int, api.Errno) {
	if wantStable(out) {
		return out, round, api.OK
	}
	back, refused := build.Parse(write.Rows(out))
	if refused != api.OK || round == 8 {
		return nil, round, api.OK
	}
	next, e := clean.Rows(back, c, safely)
	if e != api.OK {
		return nil, 0, e
	}
	return wantFrom(round+1, next, c, safely)
}

// plain writes rows down so that two are the same just if what is written is: no nil is told from an empty list.
func plain(l []api.Row) string {
	var b strings.Builder
	for _, x := range l {
		fmt.Fprintf(&b, "[%d %d %q %q", x.Depth, x.Kind, x.Name, x.Data)
		for _, a := range x.Attrs {
			fmt.Fprintf(&b, " %q=%q", a.Name, a.Value)
		}
		b.WriteByte(']')
	}
	return b.String()
}

func el(depth int, name string, attrs ...api.Attr) api.Row {
	return api.Row{Depth: depth, Kind: api.KindElement, Name: name, Attrs: attrs}
}

func text(depth int, s string) api.Row { return api.Row{Depth: depth, Kind: api.KindText, Data: s} }

func note(depth int, s string) api.Row {
	return api.Row{Depth: depth, Kind: api.KindComment, Data: s}
}

func attr(name, value string) api.Attr { return api.Attr{Name: name, Value: value} }

func per(element string, attrs ...string) api.Per { return api.Per{Element: element, Attrs: attrs} }

// trees reads trees from words: 'x is a text, !x a comment, (x/a=b/c an element with attributes, all up to its ) being in it; some bytes stand in them as marks.
func trees(s string) []api.Row {
	var out []api.Row
	depth := 0
	for _, word := range strings.Fields(s) {
		switch data := marked(word[1:]); word[0] {
		case '\'':
			out = append(out, text(depth, data))
		case '!':
			out = append(out, note(depth, data))
		case '(':
			name, attrs, _ := strings.Cut(word[1:], "/")
			out = append(out, el(depth, marked(name), attrsOf(attrs)...))
			depth++
		case ')':
			depth--
		}
	}
	return slices.Clip(out)
}

// attrsOf reads attributes: a=b/c.
func attrsOf(s string) []api.Attr {
	var out []api.Attr
	for word := range strings.SplitSeq(s, "/") {
		if name, value, _ := strings.Cut(word, "="); word != "" {
			out = append(out, attr(marked(name), marked(value)))
		}
	}
	return out
}

// marked has bytes in the place of their marks.
func marked(s string) string {
	return strings.NewReplacer(`\s`, " ", `\n`, "\n", `\r`, "\r", `\0`, "\x00", `\f`, "\xff", `\u`, "\uFFFD", `\v`, "/", `\e`, "=", `\h`, "\u00a0").Replace(s)
}

// conf reads a configuration from words: +x an element that stays, the others going, -x one that goes, ~x one that is replaced, @x an attribute that goes, ! that comments stay.
func conf(s string) api.Conf {
	var c api.Conf
	for _, word := range strings.Fields(s) {
		switch name := word[1:]; word[0] {
		case '!':
			c.Comments = true
		case '+':
			c.Allow, c.Elements = true, append(c.Elements, name)
		case '-':
			c.Elements = append(c.Elements, name)
		case '~':
			c.Replace = append(c.Replace, name)
		case '@':
			c.Attrs = append(c.Attrs, name)
		}
	}
	return c
}

// treesOf are all valid ones of at most n rows of from.
func treesOf(from []api.Row, n int) [][]api.Row {
	lists := [][]api.Row{nil}
	for start := 0; n > 0; n-- {
		end := len(lists)
		for _, l := range lists[start:end] {
			for _, row := range from {
				for row.Depth = 0; row.Depth <= len(l); row.Depth++ {
					if next := append(slices.Clone(l), row); rows.Check(next) == api.OK {
						lists = append(lists, next)
					}
				}
			}
		}
		start = end
	}
	return lists
}

// chain are so many elements, each within the one before it, with these names by turns.
func chain(n int, names ...string) []api.Row {
	out := make([]api.Row, 0, n)
	for i := range n {
		out = append(out, el(i, names[i%len(names)]))
	}
	return out
}

// many are so many names.
func many(n int) []string {
	var l []string
	for i := range n {
		l = append(l, fmt.Sprint("x", i))
	}
	return l
}
