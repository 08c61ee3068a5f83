package clean

import (
	"fmt"
	"slices"
	"testing"

	"bolting/api"
	"bolting/config"
)

// roomyList is the same list with room behind it, filled with what a change would be seen in.
func roomyList[T any](l []T, spare T) []T {
	out := append(make([]T, 0, len(l)+6), l...)
	full := out[:cap(out)]
	for i := len(l); i < len(full); i++ {
		full[i] = spare
	}
	return out
}

// roomy are the same rows with room behind the list and behind all attributes.
func roomy(l []api.Row) []api.Row {
	out := slices.Clone(l)
	for i := range out {
		out[i].Attrs = roomyList(l[i].Attrs, attr("spare", "value"))
	}
	return roomyList(out, api.Row{Depth: -7, Kind: -7, Name: "spare", Data: "spare", Attrs: attrsOf("spare=spare")})
}

// roomyConf is the same configuration with room behind all of its lists.
func roomyConf(c api.Conf) api.Conf {
	c.Elements, c.Replace, c.Attrs = roomyList(c.Elements, "spare"), roomyList(c.Replace, "spare"), roomyList(c.Attrs, "spare")
	pers := slices.Clone(c.Per)
	for i := range pers {
		pers[i].Attrs = roomyList(pers[i].Attrs, "spare")
	}
	c.Per = roomyList(pers, per("spare", "spare"))
	return c
}

// wholly writes rows down with all that is in the room behind them.
func wholly(l []api.Row) string {
	l = slices.Clone(l[:cap(l)])
	for i, row := range l {
		l[i].Attrs = row.Attrs[:cap(row.Attrs)]
	}
	return plain(l)
}

// whollyConf writes a configuration down with all that is in the room behind its lists.
func whollyConf(c api.Conf) string {
	s := fmt.Sprintf("%+v %q %q %q", c, c.Elements[:cap(c.Elements)], c.Replace[:cap(c.Replace)], c.Attrs[:cap(c.Attrs)])
	for _, p := range c.Per[:cap(c.Per)] {
		s += fmt.Sprintf(" %q %q", p.Element, p.Attrs[:cap(p.Attrs)])
	}
	return s
}

// spoilAttrs overwrites all of a list's memory, its room too.
func spoilAttrs(l []api.Attr) {
	l = l[:cap(l)]
	for i := range l {
		l[i] = attr("spoilt", "spoilt")
	}
}

// spoil overwrites all of the memory of rows, their room too.
func spoil(l []api.Row) {
	l = l[:cap(l)]
	for i := range l {
		spoilAttrs(l[i].Attrs)
		l[i] = api.Row{Depth: 99, Kind: 99, Name: "spoilt", Data: "spoilt"}
	}
}

// spoilConf overwrites all of a configuration's lists, their room too.
func spoilConf(c api.Conf) {
	lists := [][]string{c.Elements, c.Replace, c.Attrs}
	for _, p := range c.Per[:cap(c.Per)] {
		lists = append(lists, p.Attrs)
	}
	for _, l := range lists {
		for i := range l[:cap(l)] {
			l[:cap(l)][i] = "spoilt"
		}
	}
	for i := range c.Per[:cap(c.Per)] {
		c.Per[:cap(c.Per)][i] = per("spoilt", "spoilt")
	}
}

// rich has attributes at each level, some of them in one piece of memory.
func rich() []api.Row {
	shared := attrsOf("a=1/b=2/onx=3/c=4/d=5")
	return []api.Row{
		el(0, "p", shared...), text(1, "x"), text(1, "y"), el(1, "q", shared[:2]...), el(2, "r", shared[1:]...), note(2, "z"),
		el(2, "p", shared[3:]...), text(3, "v"), el(0, "s", shared...), text(0, ""), text(0, "w"), el(0, "p"), el(0, "q", shared[4:]...),
	}
}

// richConfs keep all, most and little of rich; the lists of one lie in one piece of memory.
func richConfs() []api.Conf {
	shared := []string{"q", "a", "b", "c", "s"}
	within := api.Conf{Elements: shared[4:], Replace: shared[:1], AttrsAllow: true, Attrs: shared[1:3], Per: []api.Per{per("p", shared[3:4]...), per("r", shared[3:]...)}}
	listed := api.Conf{Allow: true, Elements: []string{"s", "r", "p"}, Attrs: []string{"b", "a"}, Comments: true}
	return []api.Conf{config.All(), {}, {Replace: []string{"p", "q"}}, {Elements: []string{"q"}}, within, listed, {AttrsAllow: true, Per: []api.Per{per("s", "d", "a")}}, {Allow: true}}
}

// each calls with all of rich's configurations, safely and not.
func each(see func(c api.Conf, safely bool)) {
	for _, c := range richConfs() {
		see(c, false)
		see(c, true)
	}
}

// R4, R5: what is passed stays as it was, the room behind it too; answers do not hang on that room.
func TestArguments(t *testing.T) {
	each(func(c api.Conf, safely bool) {
		l, given := roomy(rich()), roomyConf(c)
		before, beforeConf := wholly(l), whollyConf(given)
		with, e := Rows(l, given, safely)
		without, e2 := Rows(rich(), c, safely)
		if e != api.OK || e2 != api.OK || plain(with) != plain(without) {
			t.Errorf("%+v: %s with room, %s without", c, plain(with), plain(without))
		}
		for i, row := range l {
			if with, without := Attrs(row, given, safely), Attrs(rich()[i], c, safely); !slices.Equal(with, without) {
				t.Errorf("%+v: %v with room, %v without", c, with, without)
			}
		}
		if wholly(l) != before || whollyConf(given) != beforeConf {
			t.Errorf("%+v: changed what was passed", c)
		}
	})
}

// R2, R4: calls that return an error leave what is passed as it was.
func TestArgumentsOfErrors(t *testing.T) {
	for _, c := range append(richConfs(), api.Conf{Elements: []string{"", "q", "a"}}, api.Conf{Attrs: []string{"b", "a", "b"}}, api.Conf{DataAttrs: true}) {
		for _, bad := range [][]api.Row{rich()[1:], append(rich(), el(0, "")), append(rich(), el(60, "b")), rich()} {
			l, given := roomy(bad), roomyConf(c)
			before, beforeConf := wholly(l), whollyConf(given)
			Rows(l, given, false)
			Rows(l, given, true)
			if wholly(l) != before || whollyConf(given) != beforeConf {
				t.Errorf("%+v: changed what was passed", c)
			}
		}
	}
}

// R4: also where lists lie in one piece of memory, those that are passed stay as they were.
func TestSharedArguments(t *testing.T) {
	each(func(c api.Conf, safely bool) {
		l := rich()
		before, beforeConf := wholly(l), whollyConf(c)
		out, _ := Rows(l, c, safely)
		spoil(out)
		for _, row := range l {
			spoilAttrs(Attrs(row, c, safely))
		}
		if wholly(l) != before || whollyConf(c) != beforeConf {
			t.Errorf("%+v: changed what was passed", c)
		}
	})
}

// R4: results are new memory each time: neither a change in one nor in what was passed changes another, or a later answer.
func TestResults(t *testing.T) {
	each(func(c api.Conf, safely bool) {
		l, given := roomy(rich()), roomyConf(c)
		before := wholly(l)
		first, _ := Rows(l, given, safely)
		second, _ := Rows(l, given, safely)
		want, whole := plain(second), wholly(second)
		spoil(first)
		if wholly(l) != before || wholly(second) != whole {
			t.Errorf("%+v: a change in the result changes what was passed or another result", c)
		}
		if third, _ := Rows(l, given, safely); plain(third) != want {
			t.Errorf("%+v: a change in a result changes a later one: %s, want %s", c, plain(third), want)
		}
		spoil(l)
		spoilConf(given)
		if wholly(second) != whole {
			t.Errorf("%+v: a change in what was passed changes the result", c)
		}
		if fourth, _ := Rows(rich(), c, safely); plain(fourth) != want {
			t.Errorf("%+v: a change in what was passed changes a later result: %s, want %s", c, plain(fourth), want)
		}
	})
}

// R4: the same of the attributes of an element.
func TestResultsOfAttrs(t *testing.T) {
	each(func(c api.Conf, safely bool) {
		for i, row := range roomy(rich()) {
			given := roomyConf(c)
			before := wholly([]api.Row{row})
			first, second := Attrs(row, given, safely), Attrs(row, given, safely)
			want, whole := plainAttrs(second), plainAttrs(second[:cap(second)])
			spoilAttrs(first)
			if wholly([]api.Row{row}) != before || plainAttrs(second[:cap(second)]) != whole {
				t.Errorf("%+v, %d: a change in the result changes what was passed or another result", c, i)
			}
			spoilAttrs(row.Attrs)
			spoilConf(given)
			if plainAttrs(second[:cap(second)]) != whole {
				t.Errorf("%+v, %d: a change in what was passed changes the result", c, i)
			}
			if third := Attrs(rich()[i], c, safely); plainAttrs(third) != want {
				t.Errorf("%+v, %d: a later result%s, want%s", c, i, plainAttrs(third), want)
			}
		}
	})
}

// R4: no two lists of a result share memory, the room behind them included.
func TestListsApart(t *testing.T) {
	each(func(c api.Conf, safely bool) {
		out, _ := Rows(rich(), c, safely)
		for i := range out {
			full := out[i].Attrs[:cap(out[i].Attrs)]
			for k := range full {
				full[k] = attr(fmt.Sprint(i), "")
			}
		}
		for i := range out {
			for _, a := range out[i].Attrs[:cap(out[i].Attrs)] {
				if a.Name != fmt.Sprint(i) {
					t.Errorf("%+v: the attributes of %d are those of %s too", c, i, a.Name)
				}
			}
		}
	})
}

// R5: answers do not hang on earlier calls, nor on their order.
func TestEarlierCalls(t *testing.T) {
	var first []string
	each(func(c api.Conf, safely bool) {
		out, _ := Rows(rich(), c, safely)
		first = append(first, plain(out))
	})
	Rows(rich()[1:], config.All(), true)
	Rows(nil, api.Conf{DataAttrs: true}, true)
	for i, c := range slices.Backward(richConfs()) {
		for k, safely := range []bool{false, true} {
			if out, _ := Rows(rich(), c, safely); plain(out) != first[2*i+k] {
				t.Errorf("%+v, %t: %s, at first %s", c, safely, plain(out), first[2*i+k])
			}
		}
	}
}
