package token

import (
	"slices"
	"strings"
	"testing"

	"bolting/api"
)

// spoil overwrites all of a list's memory and of its attributes', the room behind them too, and makes it longer.
func spoil(l []api.Token) {
	l = l[:cap(l)]
	for i := range l {
		spoilAttrs(l[i].Attrs)
		l[i] = api.Token{Kind: 9, Name: "spoilt", Data: "spoilt", Attrs: []api.Attr{{Name: "spoilt", Value: "spoilt"}}, Self: true}
	}
	_ = append(l, api.Token{Kind: 9, Name: "more"})
}

func spoilAttrs(l []api.Attr) {
	l = l[:cap(l)]
	for i := range l {
		l[i] = api.Attr{Name: "spoilt", Value: "spoilt"}
	}
	_ = append(l, api.Attr{Name: "more", Value: "more"})
}

// roomy are the same tokens with room behind the list and behind all attributes, filled with what a change would be seen in.
func roomy(l []api.Token) []api.Token {
	out := make([]api.Token, 0, len(l)+8)
	for _, t := range l {
		attrs := append(make([]api.Attr, 0, len(t.Attrs)+4), t.Attrs...)
		for range 4 {
			attrs = append(attrs, api.Attr{Name: "spare", Value: "spare"})
		}
		t.Attrs = attrs[:len(t.Attrs)]
		out = append(out, t)
	}
	all := out
	for range 8 {
		all = append(all, api.Token{Kind: -7, Name: "spare", Data: "spare", Attrs: []api.Attr{{Name: "spare", Value: "spare"}}})
	}
	return all[:len(l)]
}

// wholly writes tokens down with all that is in the room behind them.
func wholly(l []api.Token) string {
	l = slices.Clone(l[:cap(l)])
	for i, t := range l {
		l[i].Attrs = t.Attrs[:cap(t.Attrs)]
	}
	return plain(l)
}

// documents are some that have tokens of each kind, more and fewer of them.
func documents() []string {
	all := []string{
		"", "a", "<a>", "<a b=c d=e f>", "<a b=1 c=2 d=3 e=4 f=5><g b=1 c=2 d=3><h b=1></h i=j>", "<!--a--><!doctype b><?c>", "<style d=e>a<b></style>f", "<title d=e>&lt;</title>f",
		"a</>b<c d=e>f</c g=h>", "<a b=c b=d B=e>", "<a b=c",
	}
	return append(all, strings.Join(all[:10], ""), strings.Repeat("<a b=c d=e f=g>x", 50))
}

// calls are both functions that give out tokens.
func calls() map[string]func(s string) []api.Token {
	return map[string]func(s string) []api.Token{
		"Cut":      Cut,
		"In style": func(s string) []api.Token { return In(s, "style") },
		"In title": func(s string) []api.Token { return In(s, "title") },
		"In div":   func(s string) []api.Token { return In(s, "div") },
	}
}

// R4, R5: a change in a list that was returned, its room used up too, changes no other list and no later answer.
func TestMemory(t *testing.T) {
	for name, call := range calls() {
		for _, s := range documents() {
			first, second := call(s), call(s)
			want := plain(first)
			spoil(first)
			if plain(second) != want {
				t.Errorf("%s(%q): a change in a result changes another:\n%s", name, s, plain(second))
			}
			spoil(second)
			if later := plain(call(s)); later != want {
				t.Errorf("%s(%q): a change in a result changes a later one:\n%s", name, s, later)
			}
		}
	}
}

// R4: no two lists of one result share memory, the room behind them included.
func TestNotShared(t *testing.T) {
	for name, call := range calls() {
		for _, s := range documents() {
			l, want := call(s), call(s)
			for i := range l {
				spoilAttrs(l[i].Attrs)
				want[i].Attrs = l[i].Attrs
				if plain(l) != plain(want) {
					t.Errorf("%s(%q): attributes of token %d are another's too:\n%s", name, s, i, plain(l))
				}
			}
			longer := append(l, text("mine"))
			_ = append(call(s), text("others"))
			if longer[len(l)].Data != "mine" {
				t.Errorf("%s(%q): room that is another's too", name, s)
			}
		}
	}
}

// R4: Write leaves what it is passed as it is, and what it returns is not changed by a later change in that.
func TestWriteMemory(t *testing.T) {
	for _, s := range documents() {
		l := roomy(Cut(s))
		before := wholly(l)
		first := Write(l)
		copied := strings.Clone(first)
		if wholly(l) != before {
			t.Errorf("%q: Write changed what it was passed:\n%s", s, wholly(l))
		}
		spoil(l)
		if first != copied || Write(Cut(s)) != copied {
			t.Errorf("%q: %q, later %q", s, first, Write(Cut(s)))
		}
	}
}
