package build

import (
	"slices"
	"strings"
	"testing"

	"bolting/api"
	"bolting/token"
)

// spoil overwrites all of a list's memory and of its attributes', the room behind them too, and makes it longer.
func spoil(l []api.Row) {
	l = l[:cap(l)]
	for i := range l {
		spoilAttrs(l[i].Attrs)
		l[i] = api.Row{Depth: 99, Kind: 99, Name: "spoilt", Data: "spoilt", Attrs: []api.Attr{{Name: "spoilt", Value: "spoilt"}}}
	}
	_ = append(l, api.Row{Name: "more"})
}

func spoilAttrs(l []api.Attr) {
	l = l[:cap(l)]
	for i := range l {
		l[i] = api.Attr{Name: "spoilt", Value: "spoilt"}
	}
	_ = append(l, api.Attr{Name: "more", Value: "more"})
}

// roomy are the same tokens with room behind the list and behind all attributes, filled with what a change would be seen in.
func roomy(l []api.Token) []api.Token {
	out := make([]api.Token, 0, len(l)+8)
	for _, t := range l {
		attrs := append(make([]api.Attr, 0, len(t.Attrs)+4), t.Attrs...)
		for range 4 {
			attrs = append(attrs, api.Attr{Name: "spare", Value: "spare"})
		}
		t.Attrs = attrs[:len(t.Attrs)]
		out = append(out, t)
	}
	all := out
	for range 8 {
		all = append(all, api.Token{Kind: api.TokStart, Name: "spare", Data: "spare", Attrs: []api.Attr{{Name: "spare", Value: "spare"}}})
	}
	return all[:len(l)]
}

// wholly are tokens copied with all that is in the room behind them.
func wholly(l []api.Token) []api.Token {
	l = slices.Clone(l[:cap(l)])
	for i, t := range l {
		l[i].Attrs = slices.Clone(t.Attrs[:cap(t.Attrs)])
	}
	return l
}

func sameTokens(a, b []api.Token) bool {
	return slices.EqualFunc(a, b, func(x, y api.Token) bool {
		return x.Kind == y.Kind && x.Name == y.Name && x.Data == y.Data && x.Self == y.Self && slices.Equal(x.Attrs, y.Attrs)
	})
}

// documents are some that have rows of each kind, more and fewer of them.
func documents() []string {
	all := []string{
		"", "a", "<a>", "<a b=c d=e f>", "<a b=1 c=2 d=3 e=4 f=5><g b=1 c=2 d=3><h b=1></h>", "<!--a-->b<?c>", "<style d=e>a<b></style>f", "a</>b<c d=e>f</c>", "</p><li a=b><li a=b>", "<br a=b><br a=b><p a=b><p a=b>",
	}
	return append(all, strings.Join(all, ""), strings.Repeat("<a b=c d=e f=g>x</a>", 50))
}

// calls are all functions that give out rows.
func calls() map[string]func(s string) ([]api.Row, api.Errno) {
	return map[string]func(s string) ([]api.Row, api.Errno){
		"Parse":    Parse,
		"In style": func(s string) ([]api.Row, api.Errno) { return In(s, "style") },
		"In div":   func(s string) ([]api.Row, api.Errno) { return In(s, "div") },
		"Tree":     func(s string) ([]api.Row, api.Errno) { return Tree(token.Cut(s)) },
		"Tree of tokens whose attributes come twice": func(s string) ([]api.Row, api.Errno) {
			l := token.Cut(s)
			for i := range l {
				l[i].Attrs = append(l[i].Attrs, l[i].Attrs...)
			}
			return Tree(l)
		},
	}
}

// rowsOf are the rows of a call that does not fail.
func rowsOf(t *testing.T, call func(s string) ([]api.Row, api.Errno), s string) []api.Row {
	t.Helper()
	l, e := call(s)
	if e != api.OK {
		t.Errorf("%q: %d", s, e)
	}
	return l
}

// R4, R5: a change in a list that was returned, its room used up too, changes no other list and no later answer.
func TestMemory(t *testing.T) {
	for name, call := range calls() {
		for _, s := range documents() {
			first, second := rowsOf(t, call, s), rowsOf(t, call, s)
			want := plain(first)
			spoil(first)
			if plain(second) != want {
				t.Errorf("%s(%q): a change in a result changes another: %s", name, s, plain(second))
			}
			spoil(second)
			if later := plain(rowsOf(t, call, s)); later != want {
				t.Errorf("%s(%q): a change in a result changes a later one: %s", name, s, later)
			}
		}
	}
}

// R4: no two lists of one result share memory, the room behind them included.
func TestNotShared(t *testing.T) {
	for name, call := range calls() {
		for _, s := range documents() {
			l, want := rowsOf(t, call, s), rowsOf(t, call, s)
			for i := range l {
				spoilAttrs(l[i].Attrs)
				want[i].Attrs = l[i].Attrs
				if plain(l) != plain(want) {
					t.Errorf("%s(%q): attributes of row %d are another's too: %s", name, s, i, plain(l))
				}
			}
			longer := append(l, api.Row{Data: "mine"})
			_ = append(rowsOf(t, call, s), api.Row{Data: "others"})
			if longer[len(l)].Data != "mine" {
				t.Errorf("%s(%q): room that is another's too", name, s)
			}
		}
	}
}

// R4: tokens and names that are passed stay as they were, and a later change in them or in the rows changes not the other.
func TestArguments(t *testing.T) {
	for _, s := range append(documents(), strings.Repeat("<b x=y>", 61)) {
		l := roomy(token.Cut(s))
		before := wholly(l)
		first, e := Tree(l)
		second, _ := Tree(l)
		want := plain(first)
		if !sameTokens(wholly(l), before) {
			t.Errorf("%q: Tree changed what it was passed", s)
		}
		spoil(first)
		if !sameTokens(wholly(l), before) {
			t.Errorf("%q: a change in the rows changes the tokens", s)
		}
		for i := range before {
			l := l[:cap(l)]
			spoilAttrs(l[i].Attrs)
			l[i] = api.Token{Kind: 9, Name: "spoilt", Data: "spoilt"}
		}
		if plain(second) != want {
			t.Errorf("%q, %d: a change in the tokens changes the rows: %s", s, e, plain(second))
		}
	}
}

// R4: Nested leaves the names that it is passed as they are, the room behind them too.
func TestNestedMemory(t *testing.T) {
	all := strings.Fields("ul li b p b spare li p")
	for n := range len(all) {
		want := slices.Clone(all)
		for _, name := range strings.Fields("p li dd td b option html") {
			first := Nested(name, all[:n])
			if Nested(name, all[:n]) != first || !slices.Equal(all, want) {
				t.Errorf("Nested(%q, %q): %q", name, want[:n], all)
			}
		}
	}
}
