package rows

import (
	"slices"
	"testing"

	"bolting/api"
)

// deepCopy are the same rows in other memory.
func deepCopy(l []api.Row) []api.Row {
	out := slices.Clone(l)
	for i := range out {
		out[i].Attrs = slices.Clone(out[i].Attrs)
	}
	return out
}

// roomy are the same rows with room behind the list and behind all attributes, filled with what a change would be seen in.
func roomy(l []api.Row) []api.Row {
	out := make([]api.Row, 0, len(l)+8)
	for _, row := range l {
		attrs := make([]api.Attr, 0, len(row.Attrs)+4)
		row.Attrs = append(attrs, row.Attrs...)
		fill := attrs[:cap(attrs)]
		for i := len(row.Attrs); i < len(fill); i++ {
			fill[i] = attr("spare", "value")
		}
		out = append(out, row)
	}
	fill := out[:cap(out)]
	for i := len(out); i < len(fill); i++ {
		fill[i] = api.Row{Depth: -7, Kind: -7, Name: "spare", Data: "spare", Attrs: []api.Attr{attr("spare", "spare")}}
	}
	return out
}

// wholly writes rows down with all that is in the room behind them.
func wholly(l []api.Row) string {
	l = slices.Clone(l[:cap(l)])
	for i, row := range l {
		l[i].Attrs = row.Attrs[:cap(row.Attrs)]
	}
	return plain(l)
}

// spoil overwrites all of a list's memory, its room too.
func spoil(l []api.Row) {
	l = l[:cap(l)]
	for i := range l {
		attrs := l[i].Attrs[:cap(l[i].Attrs)]
		for k := range attrs {
			attrs[k] = attr("spoilt", "spoilt")
		}
		l[i] = api.Row{Depth: 99, Kind: 99, Name: "spoilt", Data: "spoilt"}
	}
}

// rich has attributes at each level, some of them in one piece of memory.
func rich() []api.Row {
	shared := []api.Attr{attr("a", "1"), attr("b", "2"), attr("c", "3")}
	return []api.Row{
		el(0, "p", shared...), text(1, "x"), text(1, "y"), el(1, "q", shared[:2]...), el(2, "r", shared[1:]...), note(2, "z"), el(0, "s", shared...), text(0, ""),
	}
}

// calls are all functions that give out rows, each with arguments for which it does.
func calls() map[string]func(l, sub []api.Row) []api.Row {
	out := map[string]func(l, sub []api.Row) []api.Row{
		"Normal": func(l, _ []api.Row) []api.Row { return Normal(l) },
	}
	for i, name := range []string{"0", "1", "2", "3", "4", "5", "6", "7"} {
		out["Take "+name] = func(l, _ []api.Row) []api.Row { x, _ := Take(l, i); return x }
		out["Drop "+name] = func(l, _ []api.Row) []api.Row { x, _ := Drop(l, i); return x }
	}
	for i, p := range [][2]int{{-1, 0}, {-1, 1}, {-1, 3}, {0, 0}, {0, 2}, {0, 3}, {3, 1}, {4, 0}} {
		out["Put "+string(rune('a'+i))] = func(l, sub []api.Row) []api.Row { x, _ := Put(l, p[0], p[1], sub); return x }
		out["Put nothing "+string(rune('a'+i))] = func(l, _ []api.Row) []api.Row { x, _ := Put(l, p[0], p[1], nil); return x }
		out["Put itself "+string(rune('a'+i))] = func(l, _ []api.Row) []api.Row { x, _ := Put(l, p[0], p[1], l); return x }
	}
	return out
}

// R4, P4.4: what is passed stays as it was, and a change in a result changes neither it nor another result; nor the other way round.
func TestMemory(t *testing.T) {
	for name, call := range calls() {
		l, sub := roomy(rich()), roomy(rich()[3:])
		for i := range sub {
			sub[i].Depth = max(0, sub[i].Depth-1)
		}
		lBefore, subBefore := wholly(l), wholly(sub)
		first, second := call(l, sub), call(l, sub)
		want := plain(first)
		if len(first) == 0 || plain(second) != want {
			t.Errorf("%s: %v, and then %v", name, first, second)
		}
		if wholly(l) != lBefore || wholly(sub) != subBefore {
			t.Errorf("%s: changed what was passed", name)
		}
		spoil(first)
		if wholly(l) != lBefore || wholly(sub) != subBefore {
			t.Errorf("%s: a change in the result changes what was passed", name)
		}
		if plain(second) != want {
			t.Errorf("%s: a change in a result changes another", name)
		}
		spoil(l)
		spoil(sub)
		if plain(second) != want {
			t.Errorf("%s: a change in what was passed changes the result", name)
		}
	}
}

// R4: no two slices of one result share memory, the room behind them included.
func TestNotShared(t *testing.T) {
	for name, call := range calls() {
		l := rich()
		out := call(l, []api.Row{l[0], l[6]})
		for i := range out {
			before := deepCopy(out)
			attrs := out[i].Attrs[:cap(out[i].Attrs)]
			for k := range attrs {
				attrs[k] = attr("spoilt", "spoilt")
			}
			before[i].Attrs = out[i].Attrs
			if plain(out) != plain(before) {
				t.Errorf("%s: attributes of row %d are those of another too", name, i)
			}
			if len(out[i].Attrs) > 0 {
				out[i].Attrs = append(out[i].Attrs, attr("more", "more"))
				before[i].Attrs = out[i].Attrs
			}
			if plain(out) != plain(before) {
				t.Errorf("%s: attributes of row %d grow into another's", name, i)
			}
		}
	}
}

// R4: lists of kids are new memory; functions that give out no rows, and calls that return an error, leave what is passed as it was.
func TestKidsMemory(t *testing.T) {
	l := roomy(rich())
	before := wholly(l)
	for i := -2; i < len(l)+2; i++ {
		first, second := Kids(l, i), Kids(l, i)
		for k := range first[:cap(first)] {
			first[:cap(first)][k] = 99
		}
		if !slices.Equal(second, Kids(l, i)) {
			t.Errorf("Kids(%d): a change in a result changes another", i)
		}
		End(l, i)
		Parent(l, i)
		Text(l, i)
	}
	Check(l)
	Same(l, roomy(rich()))
	Put(l, 1, 0, l)
	Put(l, 0, 9, l)
	Put(l, 0, 0, l[1:])
	Put(l, 0, 0, chain(60))
	Take(l, 99)
	Drop(l, 99)
	if wholly(l) != before {
		t.Error("changed what was passed")
	}
}
