package write

import (
	"math"
	"slices"
	"strings"
	"testing"

	"bolting/api"
	"bolting/build"
)

// roomy are the same rows with room behind the list and behind all attributes, filled with what a change would be seen in.
func roomy(l []api.Row) []api.Row {
	out := make([]api.Row, 0, len(l)+8)
	for _, row := range l {
		attrs := append(make([]api.Attr, 0, len(row.Attrs)+4), row.Attrs...)
		for range 4 {
			attrs = append(attrs, attr("spare", "spare"))
		}
		row.Attrs = attrs[:len(row.Attrs)]
		out = append(out, row)
	}
	for i := range 8 {
		out = append(out, el(i, "spare", attr("spare", "spare")))
	}
	return out[:len(l)]
}

// wholly are rows copied with all that is in the room behind them.
func wholly(l []api.Row) []api.Row {
	l = slices.Clone(l[:cap(l)])
	for i, row := range l {
		l[i].Attrs = slices.Clone(row.Attrs[:cap(row.Attrs)])
	}
	return l
}

// some are lists of each kind of rows, legal ones, others, and some that are not valid.
func some() [][]api.Row {
	all := [][]api.Row{
		nil,
		of(text(0, "a<"), el(0, "br"), note(0, "b")),
		of(el(0, "b", attr("x", "<"), attr("y", "")), text(1, "a"), text(1, ""), text(1, "b"), el(1, "style"), text(2, "<")),
		of(el(0, "br"), el(1, "b", attr("x", "1")), text(2, "a"), text(0, "b")),
		of(el(0, "p"), el(1, "b"), el(2, "p"), el(1, "title"), note(2, "-->")),
		of(el(3, "b"), text(-1, "a"), el(7, "style"), text(9, "b"), api.Row{Kind: 5}),
		chain(61, "b"),
	}
	for _, s := range []string{"<ul><li a=b>c<li>d<!--e--></ul>f", "<style a=b>c</style><title>d</title><br e=f>", strings.Repeat("<a b=c d=e>x</a>", 50)} {
		l, _ := build.Parse(s)
		all = append(all, l)
	}
	return all
}

// R4, R5: rows that are passed stay as they were, the room behind them too; answers do not hang on that room, on earlier calls or on later changes.
func TestArguments(t *testing.T) {
	for _, l := range some() {
		given := roomy(l)
		before := wholly(given)
		whole, legal := Rows(given), Legal(given)
		var inside []string
		for i := -2; i < len(l)+10; i++ {
			inside = append(inside, Inside(given, i))
		}
		if plain(wholly(given)) != plain(before) || plain(given) != plain(l) {
			t.Errorf("%s: changed what was passed", brief(l))
		}
		want, keep := strings.Clone(whole), slices.Clone(inside)
		for i := range given[:cap(given)] {
			row := &given[:cap(given)][i]
			for k := range row.Attrs[:cap(row.Attrs)] {
				row.Attrs[:cap(row.Attrs)][k] = attr("spoilt", "spoilt")
			}
			*row = api.Row{Depth: math.MaxInt, Kind: 9, Name: "spoilt", Data: "spoilt"}
		}
		if whole != want || !slices.Equal(inside, keep) {
			t.Errorf("%s: a change in the rows changes an answer", brief(l))
		}
		if Rows(l) != want || Legal(l) != legal {
			t.Errorf("%s: another answer without room", brief(l))
		}
		for i := -2; i < len(l)+10; i++ {
			if s := Inside(l, i); s != keep[i+2] {
				t.Errorf("%s, %d: %q, with room %q", brief(l), i, s, keep[i+2])
			}
		}
	}
}
