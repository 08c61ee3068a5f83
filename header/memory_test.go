package header

import (
	"fmt"
	"slices"
	"testing"

	"bolting/api"
)

// many are headers whose lists have each length up to some, so that some have room behind them and some have none.
func many() []string {
	all := headers()
	for n := range 20 {
		s, names := "", ""
		for i := range n {
			s += fmt.Sprintf("D%d;", i)
			names += fmt.Sprintf(" n%d", i)
		}
		all = append(all, s, "trusted-types"+names, s+"trusted-types"+names+names+" *;x"+names+";y"+names)
	}
	return all
}

// memory is all lists of words, with the room behind them, that of the list of lists too.
func memory(l [][]string) [][]string {
	var all [][]string
	for _, words := range l[:cap(l)] {
		all = append(all, words[:cap(words)])
	}
	return all
}

// spoil overwrites all of the memory of lists of words with a mark.
func spoil(l [][]string, mark string) {
	for _, words := range memory(l) {
		for i := range words {
			words[i] = mark
		}
	}
	full := l[:cap(l)]
	for i := range full {
		full[i] = []string{mark}
	}
}

// R4: no two lists that Parts answers share memory, the room behind them included.
func TestPartsApart(t *testing.T) {
	for _, s := range many() {
		l := memory(Parts(s))
		for n, words := range l {
			for i := range words {
				words[i] = fmt.Sprint(n)
			}
		}
		for n, words := range l {
			if slices.ContainsFunc(words, func(word string) bool { return word != fmt.Sprint(n) }) {
				t.Errorf("Parts(%q): %q", s, l)
			}
		}
	}
}

// R4: Parts answers new memory each time: neither of two answers changes the other or a later one, the room behind them included.
func TestPartsNew(t *testing.T) {
	for _, s := range many() {
		want := wantParts(s)
		first, second := Parts(s), Parts(s)
		room := fmt.Sprintf("%q", memory(second))
		spoil(first, "spoilt")
		if !sameParts(second, want) || fmt.Sprintf("%q", memory(second)) != room {
			t.Errorf("Parts(%q): %q behind a change of another answer", s, second)
		}
		spoil(second, "spoilt")
		if l := Parts(s); !sameParts(l, want) {
			t.Errorf("Parts(%q): %q behind a change of earlier answers", s, l)
		}
		if g := Parse(s, true); shown(g) != shown(wantParse(s, true)) {
			t.Errorf("Parse(%q): %s behind a change of what Parts answered", s, shown(g))
		}
	}
}

// R4: a guard's Names are new memory each time, the room behind them included.
func TestNamesNew(t *testing.T) {
	for _, s := range many() {
		want := shown(wantParse(s, false))
		first, second := Parse(s, false), Parse(s, false)
		room := fmt.Sprintf("%q", second.Names[:cap(second.Names)])
		spoil([][]string{first.Names}, "spoilt")
		if shown(second) != want || fmt.Sprintf("%q", second.Names[:cap(second.Names)]) != room {
			t.Errorf("Parse(%q): %s behind a change of another guard, want %s", s, shown(second), want)
		}
		spoil([][]string{second.Names}, "spoilt")
		if g := Parse(s, false); shown(g) != want {
			t.Errorf("Parse(%q): %s behind a change of earlier guards, want %s", s, shown(g), want)
		}
		if l := Parts(s); !sameParts(l, wantParts(s)) {
			t.Errorf("Parts(%q): %q behind a change of guards", s, l)
		}
	}
}

// R4, R5: Allows changes nothing of a guard's Names, and does not look at the room behind them.
func TestNamesPassed(t *testing.T) {
	for _, names := range nameLists() {
		room := append(slices.Clone(names), make([]string, 20)...)
		for i := range room[len(names):] {
			room[len(names)+i] = "spare"
		}
		before := slices.Clone(room)
		guards(names, func(g api.Guard) {
			given := g
			given.Names = room[:len(names)]
			for _, name := range append(someNames(), "spare") {
				for had := range 3 {
					if Allows(given, name, had) != Allows(g, name, had) {
						t.Errorf("Allows(%s, %q, %d): not the same with room behind the names", shown(g), name, had)
					}
				}
			}
		})
		if !slices.Equal(room, before) {
			t.Errorf("%q: changed to %q", before, room)
		}
	}
}

// R4: nothing of a guard is kept: what is changed in its Names counts in the next call.
func TestNamesNotKept(t *testing.T) {
	g := api.Guard{Names: []string{"a", "b"}}
	if !Allows(g, "a", 0) || Allows(g, "c", 0) {
		t.Error("ahead of the change")
	}
	g.Names[0] = "c"
	if Allows(g, "a", 0) || !Allows(g, "c", 0) || !Allows(g, "b", 0) {
		t.Error("behind the change")
	}
}

// R5: answers do not hang on earlier calls, nor on their order.
func TestEarlierCalls(t *testing.T) {
	all := many()
	said := func(s string) string {
		g := Parse(s, false)
		out := fmt.Sprintf("%q %s %s", Parts(s), shown(g), shown(Parse(s, true)))
		for _, name := range someNames() {
			out += fmt.Sprint(Allows(g, name, 0), Allows(g, name, 1))
		}
		return out
	}
	var first []string
	for _, s := range all {
		first = append(first, said(s))
	}
	for i, s := range slices.Backward(all) {
		if again := said(s); again != first[i] {
			t.Errorf("%q: %s, at first %s", s, again, first[i])
		}
	}
}
