package settle

import (
	"fmt"
	"slices"
	"testing"

	"bolting/api"
	"bolting/config"
)

// roomyList is the same list with room behind it, filled with what a change would be seen in.
func roomyList[T any](l []T, spare T) []T {
	out := append(make([]T, 0, len(l)+6), l...)
	full := out[:cap(out)]
	for i := len(l); i < len(full); i++ {
		full[i] = spare
	}
	return out
}

// roomy are the same rows with room behind the list and behind all attributes.
func roomy(l []api.Row) []api.Row {
	out := slices.Clone(l)
	for i := range out {
		out[i].Attrs = roomyList(l[i].Attrs, attr("spare", "value"))
	}
	return roomyList(out, api.Row{Depth: -7, Kind: -7, Name: "spare", Data: "spare", Attrs: attrsOf("spare=spare")})
}

// roomyConf is the same configuration with room behind all of its lists.
func roomyConf(c api.Conf) api.Conf {
	c.Elements, c.Replace, c.Attrs = roomyList(c.Elements, "spare"), roomyList(c.Replace, "spare"), roomyList(c.Attrs, "spare")
	pers := slices.Clone(c.Per)
	for i := range pers {
		pers[i].Attrs = roomyList(pers[i].Attrs, "spare")
	}
	c.Per = roomyList(pers, per("spare", "spare"))
	return c
}

// wholly writes rows down with all that is in the room behind them.
func wholly(l []api.Row) string {
	l = slices.Clone(l[:cap(l)])
	for i, row := range l {
		l[i].Attrs = row.Attrs[:cap(row.Attrs)]
	}
	return plain(l)
}

// whollyConf writes a configuration down with all that is in the room behind its lists.
func whollyConf(c api.Conf) string {
	s := fmt.Sprintf("%+v %q %q %q", c, c.Elements[:cap(c.Elements)], c.Replace[:cap(c.Replace)], c.Attrs[:cap(c.Attrs)])
	for _, p := range c.Per[:cap(c.Per)] {
		s += fmt.Sprintf(" %q %q", p.Element, p.Attrs[:cap(p.Attrs)])
	}
	return s
}

// spoil overwrites all of the memory of rows, their room too.
func spoil(l []api.Row) {
	for i, row := range l[:cap(l)] {
		for k := range row.Attrs[:cap(row.Attrs)] {
			row.Attrs[:cap(row.Attrs)][k] = attr("spoilt", "spoilt")
		}
		l[:cap(l)][i] = api.Row{Depth: 99, Kind: 99, Name: "spoilt", Data: "spoilt"}
	}
}

// spoilConf overwrites all of a configuration's lists, their room too.
func spoilConf(c api.Conf) {
	lists := [][]string{c.Elements, c.Replace, c.Attrs}
	for _, p := range c.Per[:cap(c.Per)] {
		lists = append(lists, p.Attrs)
	}
	for _, l := range lists {
		for i := range l[:cap(l)] {
			l[:cap(l)][i] = "spoilt"
		}
	}
	for i := range c.Per[:cap(c.Per)] {
		c.Per[:cap(c.Per)][i] = per("spoilt", "spoilt")
	}
}

// rich are trees with attributes, some of them in one piece of memory: that come back as they are, in a second and in a third round, and not at all.
func rich() [][]api.Row {
	shared := attrsOf("a=1/b=2/onx=3/c=4/d=5")
	stays := []api.Row{
		el(0, "b", shared...), text(1, "x"), el(1, "q", shared[:2]...), el(2, "r", shared[1:]...), note(2, "z"),
		el(2, "p", shared[3:]...), text(3, "v"), el(0, "s", shared...), text(0, "w"), el(0, "p"), el(0, "q", shared[4:]...),
	}
	return [][]api.Row{
		stays,
		append(slices.Clip(stays), text(0, ""), text(0, "w"), el(0, "p", shared[2:]...), el(1, "p", shared...)),
		append(slices.Clip(stays), el(0, "P", shared...), el(1, "BUTTON", shared[1:]...), el(2, "P", shared[:3]...)),
		append(slices.Clip(stays), text(0, string(make([]byte, 30000)))),
		slices.Clip(stays)[:0:0],
		stays[1:],
	}
}

// richConfs keep all, most and little of rich; the lists of one lie in one piece of memory.
func richConfs() []api.Conf {
	shared := []string{"q", "a", "b", "c", "s"}
	within := api.Conf{Elements: shared[4:], Replace: shared[:1], AttrsAllow: true, Attrs: shared[1:3], Per: []api.Per{per("p", shared[3:4]...), per("r", shared[3:]...)}}
	listed := api.Conf{Allow: true, Elements: []string{"s", "r", "p"}, Attrs: []string{"b", "a"}, Comments: true}
	return []api.Conf{config.All(), {}, {Replace: []string{"button"}}, {Replace: []string{"p", "q", "button"}}, {Elements: []string{"q"}}, within, listed, {Allow: true}, {Elements: []string{"q", "a", "q"}}}
}

// each calls with all of rich by all of its configurations, safely and not.
func each(see func(i int, c api.Conf, safely bool)) {
	for i := range rich() {
		for _, c := range richConfs() {
			see(i, c, false)
			see(i, c, true)
		}
	}
}

// R4, R5: what is passed stays as it was, the room behind it too, be there an error or not; answers do not hang on that room.
func TestArguments(t *testing.T) {
	each(func(i int, c api.Conf, safely bool) {
		l, given := roomy(rich()[i]), roomyConf(c)
		before, beforeConf := wholly(l), whollyConf(given)
		with, n, e := Trees(l, given, safely)
		without, n2, e2 := Trees(rich()[i], c, safely)
		if e != e2 || n != n2 || plain(with) != plain(without) {
			t.Errorf("%d by %+v: %s with room, %s without", i, c, plain(with), plain(without))
		}
		if Stable(l) != Stable(rich()[i]) {
			t.Errorf("%d: stable %t with room", i, Stable(l))
		}
		with2, e := Text("<q><p>a<b a=1 onx=2><s>c</q>d", given, safely)
		without2, e2 := Text("<q><p>a<b a=1 onx=2><s>c</q>d", c, safely)
		if with2 != without2 || e != e2 {
			t.Errorf("%+v: %s with room, %s without", c, with2, without2)
		}
		if wholly(l) != before || whollyConf(given) != beforeConf {
			t.Errorf("%d by %+v: changed what was passed", i, c)
		}
	})
}

// R4: also where lists lie in one piece of memory, those that are passed stay as they were.
func TestSharedArguments(t *testing.T) {
	each(func(i int, c api.Conf, safely bool) {
		l := rich()[i]
		before, beforeConf := wholly(l), whollyConf(c)
		out, _, _ := Trees(l, c, safely)
		spoil(out)
		if wholly(l) != before || whollyConf(c) != beforeConf {
			t.Errorf("%d by %+v: changed what was passed", i, c)
		}
	})
}

// R4: results are new memory each time: neither a change in one nor in what was passed changes another, or a later answer.
func TestResults(t *testing.T) {
	each(func(i int, c api.Conf, safely bool) {
		l, given := roomy(rich()[i]), roomyConf(c)
		before := wholly(l)
		first, _, _ := Trees(l, given, safely)
		second, _, _ := Trees(l, given, safely)
		want, whole := plain(second), wholly(second)
		spoil(first)
		if wholly(l) != before || wholly(second) != whole {
			t.Errorf("%d by %+v: a change in the result changes what was passed or another result", i, c)
		}
		if third, _, _ := Trees(l, given, safely); plain(third) != want {
			t.Errorf("%d by %+v: a change in a result changes a later one: %s, want %s", i, c, plain(third), want)
		}
		spoil(l)
		spoilConf(given)
		if wholly(second) != whole {
			t.Errorf("%d by %+v: a change in what was passed changes the result", i, c)
		}
		if fourth, _, _ := Trees(rich()[i], c, safely); plain(fourth) != want {
			t.Errorf("%d by %+v: a change in what was passed changes a later result: %s, want %s", i, c, plain(fourth), want)
		}
	})
}

// R4: no two lists of a result share memory, the room behind them included.
func TestListsApart(t *testing.T) {
	each(func(i int, c api.Conf, safely bool) {
		out, _, _ := Trees(rich()[i], c, safely)
		for k, row := range out {
			for j := range row.Attrs[:cap(row.Attrs)] {
				row.Attrs[:cap(row.Attrs)][j] = attr(fmt.Sprint(k), "")
			}
		}
		for k, row := range out {
			for _, a := range row.Attrs[:cap(row.Attrs)] {
				if a.Name != fmt.Sprint(k) {
					t.Errorf("%d by %+v: the attributes of %d are those of %s too", i, c, k, a.Name)
				}
			}
		}
	})
}

// R5: answers do not hang on earlier calls, nor on their order.
func TestEarlierCalls(t *testing.T) {
	answers := map[string]string{}
	ask := func(i int, c api.Conf, safely bool) (string, string) {
		out, n, e := Trees(rich()[i], c, safely)
		return fmt.Sprintf("%d %+v %t", i, c, safely), fmt.Sprint(plain(out), n, e, Stable(rich()[i]))
	}
	each(func(i int, c api.Conf, safely bool) {
		key, answer := ask(i, c, safely)
		answers[key] = answer
	})
	for i := len(rich()) - 1; i >= 0; i-- {
		for _, c := range slices.Backward(richConfs()) {
			for _, safely := range []bool{true, false} {
				if key, answer := ask(i, c, safely); answers[key] != answer {
					t.Errorf("%s: %s, at first %s", key, answer, answers[key])
				}
			}
		}
	}
}

// The trees of rich come to each number of rounds, so that all of this is held for each.
func TestRich(t *testing.T) {
	seen := map[string]int{}
	each(func(i int, c api.Conf, safely bool) {
		out, n, e := Trees(rich()[i], c, safely)
		seen[fmt.Sprint(n, len(out) > 0, e)]++
	})
	for _, what := range []string{"1 true 0", "1 false 0", "2 true 0", "2 false 0", "3 true 0", "0 false 122", "0 false 40"} {
		if seen[what] == 0 {
			t.Errorf("no trees came to: %s: %v", what, seen)
		}
	}
}
