package config

import (
	"fmt"
	"slices"
	"testing"

	"bolting/api"
)

// roomyNames are the same names with room behind them, filled with what a change would be seen in.
func roomyNames(l []string) []string {
	out := append(make([]string, 0, len(l)+10), l...)
	full := out[:cap(out)]
	for i := len(l); i < len(full); i++ {
		full[i] = "spare"
	}
	return out
}

// roomy is the same configuration with room behind all of its lists.
func roomy(c api.Conf) api.Conf {
	c.Elements, c.Replace, c.Attrs = roomyNames(c.Elements), roomyNames(c.Replace), roomyNames(c.Attrs)
	out := make([]api.Per, 0, len(c.Per)+10)
	for _, p := range c.Per {
		out = append(out, per(p.Element, roomyNames(p.Attrs)...))
	}
	full := out[:cap(out)]
	for i := len(out); i < len(full); i++ {
		full[i] = per("spare", roomyNames([]string{"spare"})...)
	}
	c.Per = out
	return c
}

// memory is all of the lists of names of a configuration, with the room behind them, that of the room behind Per too.
func memory(c api.Conf) [][]string {
	all := [][]string{c.Elements[:cap(c.Elements)], c.Replace[:cap(c.Replace)], c.Attrs[:cap(c.Attrs)]}
	for _, p := range c.Per[:cap(c.Per)] {
		all = append(all, p.Attrs[:cap(p.Attrs)])
	}
	return all
}

// wholly writes down all that a configuration holds, the room behind its lists too, and how long they are.
func wholly(c api.Conf) string {
	return shown(c) + fmt.Sprintf("%q %q", memory(c), elementsOf(c.Per[:cap(c.Per)]))
}

// spoil overwrites all of a configuration's memory with a mark.
func spoil(c api.Conf, mark string) {
	for _, l := range memory(c) {
		for i := range l {
			l[i] = mark
		}
	}
	full := c.Per[:cap(c.Per)]
	for i := range full {
		full[i] = per(mark, mark)
	}
}

// rich have names in all lists, some never safe, some twice, in an order that is none.
func rich() []api.Conf {
	shared := []string{"script", "a", "x", "base", "a", "iframe", "b"}
	apart := api.Conf{
		Elements: []string{"script", "x", "a", "x", "meta", "b"},
		Replace:  []string{"u", "iframe", "i", "u"},
		Attrs:    []string{"id", "class", "id", "alt"},
		Per:      pers(per("td", "y", "x", "y"), per("a", "href", "href"), per("b"), per("a", "b", "a"), per("td", "z")),
	}
	// All lists in one piece of memory, one within another.
	within := api.Conf{Elements: shared, Replace: shared[1:5], Attrs: shared[2:], Per: pers(per("c", shared...), per("b", shared[:3]...), per("c", shared[:3]...), per("a", shared[3:3]...))}
	short := api.Conf{Elements: []string{"a"}, Replace: []string{"b"}, Attrs: []string{"c"}, Per: pers(per("d", "e"))}
	sorted := api.Conf{Elements: []string{"a", "b"}, Replace: []string{"c", "d"}, Attrs: []string{"e", "f"}, Per: pers(per("g", "h", "i"), per("j", "k", "l"))}
	only := api.Conf{Elements: split(neverWords), Replace: split(neverWords), Per: pers(per("a"), per("b"))}
	return []api.Conf{{}, apart, within, short, sorted, only, wantPlain(), {Comments: true}}
}

// makers are the functions that answer a configuration.
var makers = map[string]func(c api.Conf) api.Conf{
	"Canon": Canon,
	"Strip": Strip,
	"Plain": func(api.Conf) api.Conf { return Plain() },
	"All":   func(api.Conf) api.Conf { return All() },
}

// askAll calls each function that answers no configuration.
func askAll(c api.Conf) string {
	said := fmt.Sprint(Check(c))
	for _, element := range []string{"a", "b", "script", "spare", "nope", ""} {
		said += fmt.Sprint(" ", Element(c, element))
		for _, attr := range []string{"id", "href", "x", "spare", "data-x", "nope", ""} {
			said += fmt.Sprint(" ", Attr(c, element, attr))
		}
	}
	return said
}

// R4, R5: configurations that are passed stay as they were, the room behind their lists too; answers do not hang on that room.
func TestArguments(t *testing.T) {
	for _, c := range rich() {
		bools(c, func(c api.Conf) {
			given := roomy(c)
			before := wholly(given)
			if said := askAll(given); said != askAll(c) {
				t.Errorf("%s: %s with room, %s without", shown(c), said, askAll(c))
			}
			for which, made := range makers {
				if with, without := shown(made(given)), shown(made(c)); with != without {
					t.Errorf("%s of %s: %s with room, %s without", which, shown(c), with, without)
				}
			}
			if wholly(given) != before {
				t.Errorf("%s: changed what was passed", shown(c))
			}
		})
	}
}

// R4: also where the lists lie in one piece of memory, those that are passed stay as they were.
func TestSharedArguments(t *testing.T) {
	for _, c := range rich() {
		before := wholly(c)
		askAll(c)
		for which, made := range makers {
			spoil(made(c), "spoilt")
			if wholly(c) != before {
				t.Fatalf("%s changed what was passed: %s, before %s", which, wholly(c), before)
			}
		}
	}
}

// R4: a result shares no memory with what was passed: neither changes the other, the room behind the lists included.
func TestResults(t *testing.T) {
	for _, c := range rich() {
		bools(c, func(c api.Conf) {
			for which, made := range makers {
				given := roomy(c)
				before := wholly(given)
				out := made(given)
				spoil(out, "spoilt")
				if wholly(given) != before {
					t.Errorf("%s of %s: the result is what was passed", which, shown(c))
				}
				out = made(given)
				before = wholly(out)
				spoil(given, "spoilt")
				if wholly(out) != before {
					t.Errorf("%s of %s: what was passed is the result", which, shown(c))
				}
			}
		})
	}
}

// R4: results are new memory each time: changing one changes no later answer.
func TestLaterAnswers(t *testing.T) {
	for _, c := range rich() {
		for which, made := range makers {
			first := made(c)
			want := wholly(first)
			second := made(c)
			spoil(first, "spoilt")
			if got := wholly(second); got != want {
				t.Errorf("%s of %s: %s behind a change of another result, want %s", which, shown(c), got, want)
			}
			spoil(second, "spoilt")
			if got := wholly(made(c)); got != want {
				t.Errorf("%s of %s: %s, want %s", which, shown(c), got, want)
			}
			if shown(Plain()) != shown(wantPlain()) || Check(Plain()) != api.OK || Element(Plain(), "b") != api.Keep || !Attr(Plain(), "td", "rowspan") {
				t.Errorf("Plain behind a change of the result of %s: %s", which, shown(Plain()))
			}
			if got := shown(Strip(All())); got != shown(api.Conf{Comments: true, Elements: split(neverWords)}) {
				t.Errorf("Strip of All behind a change of the result of %s: %s", which, got)
			}
		}
	}
}

// R4: no two lists of a result share memory, the room behind them included.
func TestListsApart(t *testing.T) {
	for _, c := range rich() {
		bools(c, func(c api.Conf) {
			for which, made := range makers {
				l := memory(made(c))
				for n, list := range l {
					for i := range list {
						list[i] = fmt.Sprint(n)
					}
				}
				for n, list := range l {
					if slices.ContainsFunc(list, func(s string) bool { return s != fmt.Sprint(n) }) {
						t.Errorf("%s of %s: %q", which, shown(c), l)
					}
				}
			}
		})
	}
}

// R5: answers do not hang on earlier calls, nor on their order.
func TestEarlierCalls(t *testing.T) {
	all := rich()
	var first []string
	for _, c := range all {
		first = append(first, askAll(c)+shown(Canon(c))+shown(Strip(c))+shown(Plain())+shown(All()))
	}
	for i, c := range slices.Backward(all) {
		if again := askAll(c) + shown(Canon(c)) + shown(Strip(c)) + shown(Plain()) + shown(All()); again != first[i] {
			t.Errorf("%s: %s, at first %s", shown(c), again, first[i])
		}
	}
}
