package arena

import (
	"slices"
	"testing"

	"bolting/api"
	"bolting/rows"
)

// roomy are the same rows with room behind the list and behind all attributes, filled with what a change would be seen in.
func roomy(l []api.Row) []api.Row {
	out := make([]api.Row, 0, len(l)+8)
	for _, row := range l {
		attrs := append(make([]api.Attr, 0, len(row.Attrs)+4), row.Attrs...)
		for range 4 {
			attrs = append(attrs, attr("spare", "spare"))
		}
		row.Attrs = attrs[:len(row.Attrs)]
		out = append(out, row)
	}
	for i := range 8 {
		out = append(out, el(i, "spare", attr("spare", "spare")))
	}
	return out[:len(l)]
}

// wholly are rows copied with all that is in the room behind them.
func wholly(l []api.Row) []api.Row {
	l = slices.Clone(l[:cap(l)])
	for i, row := range l {
		l[i].Attrs = slices.Clone(row.Attrs[:cap(row.Attrs)])
	}
	return l
}

// spoil overwrites all of a list's memory, its room too.
func spoil(l []api.Row) {
	l = l[:cap(l)]
	for i := range l {
		attrs := l[i].Attrs[:cap(l[i].Attrs)]
		for k := range attrs {
			attrs[k] = attr("spoilt", "spoilt")
		}
		l[i] = api.Row{Depth: 99, Kind: 99, Name: "spoilt", Data: "spoilt"}
	}
}

func spoilNumbers(l []int) {
	l = l[:cap(l)]
	for i := range l {
		l[i] = -99
	}
}

// spoilAll overwrites all that the calls that look give out.
func spoilAll(d *Doc) {
	for node := range d.Len() {
		spoilNumbers(d.Kids(node))
		spoil(d.Rows(node))
		row, _ := d.Row(node)
		spoil([]api.Row{row})
	}
}

// rich has attributes at each level, in one piece of memory.
func rich() []api.Row {
	shared := []api.Attr{attr("a", "1"), attr("b", "2"), attr("c", "3")}
	return of(el(0, "p", shared...), text(1, "x"), el(1, "q", shared[:2]...), el(2, "r", shared[1:]...), note(2, "z"), el(0, "s", shared...), text(0, ""))
}

// R4: rows that are passed stay as they were, the room behind them too, whatever is done to the document; and are not kept.
func TestArguments(t *testing.T) {
	l := roomy(rich())
	before := wholly(l)
	d := New()
	first, e := d.Load(l)
	if e != api.OK {
		t.Fatal(e)
	}
	second, _ := d.Load(l)
	state := seen(d)
	if !rows.Same(wholly(l), before) {
		t.Error("Load changes what was passed")
	}
	spoil(l)
	if seen(d) != state {
		t.Error("a change in what was passed changes the document")
	}
	l = roomy(rich())
	third, _ := d.Load(l)
	for _, root := range slices.Concat(first, second, third) {
		d.Attr(root, "a", "new")
		d.Attr(root, "new", "new")
		d.Drop(root, "b")
		d.Data(root, "new")
	}
	if !rows.Same(wholly(l), before) {
		t.Error("a change of the document changes what was passed")
	}
}

// R4: attributes that share memory when they are loaded do not share any behind that.
func TestLoadedApart(t *testing.T) {
	for node := 1; node <= 6; node++ {
		for _, change := range []func(d *Doc){
			func(d *Doc) { d.Attr(node, "b", "new") },
			func(d *Doc) { d.Attr(node, "new", "new") },
			func(d *Doc) { d.Drop(node, "b") },
		} {
			d := New()
			d.Load(rich())
			want := make([]api.Row, 8)
			for i := range want {
				want[i], _ = d.Row(i)
			}
			change(d)
			for i := range want {
				if row, _ := d.Row(i); i != node && !sameRow(row, want[i]) {
					t.Errorf("a change of node %d changes node %d: %v", node, i, row)
				}
			}
		}
	}
}

// R4: a change in a result, or in the room behind it, changes no later answer.
func TestResults(t *testing.T) {
	x := family(t)
	before := seen(x.d)
	c := x.d.Copy()
	spoilAll(x.d)
	if seen(x.d) != before || seen(c) != before {
		t.Error("a change in a result changes the document")
	}
	roots, _ := x.d.Load(rich())
	x.p.load(rich())
	spoilNumbers(roots)
	// Behind changes that leave lists shorter than they were.
	for range 3 {
		x.remove(t, 6)
		x.drop(t, 1, "class")
		spoilAll(x.d)
		x.check(t)
		x.insert(t, 1, 2, 6)
		x.attr(t, 1, "class", "y")
		x.attr(t, 1, "more", "z")
		spoilAll(x.d)
		x.check(t)
	}
	if seen(c) != before {
		t.Error("a change in a result changes a copy")
	}
}

// R4: what a call gave out stays as it is when the document changes.
func TestGivenOut(t *testing.T) {
	x := family(t)
	kids, all, root := x.d.Kids(1), x.d.Rows(1), x.d.Rows(0)
	row, _ := x.d.Row(1)
	wantRows, wantRoot, wantRow := wholly(all), wholly(root), wholly([]api.Row{row})
	x.d.Insert(1, 0, 6)
	x.d.Remove(2)
	x.d.Insert(1, 1, 13)
	x.d.Attr(1, "id", "new")
	x.d.Attr(1, "new", "new")
	x.d.Drop(1, "class")
	x.d.Data(5, "new")
	if !slices.Equal(kids, []int{2, 5, 6}) || !rows.Same(wholly(all), wantRows) || !rows.Same(wholly(root), wantRoot) || !rows.Same(wholly([]api.Row{row}), wantRow) {
		t.Error("a change of the document changes what was given out")
	}
}

// R4: no two lists of one answer share memory, the room behind them included.
func TestNotShared(t *testing.T) {
	d := New()
	d.Load(rich())
	d.Insert(0, 0, 1)
	d.Insert(0, 1, 6)
	for _, node := range []int{0, 1, 3} {
		want := d.Rows(node)
		for i := range want {
			l := d.Rows(node)
			attrs := l[i].Attrs[:cap(l[i].Attrs)]
			for k := range attrs {
				attrs[k] = attr("spoilt", "spoilt")
			}
			l = slices.Delete(l, i, i+1)
			if !rows.Same(l, slices.Delete(slices.Clone(want), i, i+1)) {
				t.Errorf("Rows(%d): the attributes of row %d share memory with others", node, i)
			}
		}
	}
}
