package risk

import (
	"fmt"
	"slices"
	"testing"

	"bolting/api"
)

// roomy are the same rows with room behind the list and behind all attributes, filled with what is not safe.
func roomy(l []api.Row) []api.Row {
	out := make([]api.Row, 0, len(l)+8)
	for _, row := range l {
		attrs := append(make([]api.Attr, 0, len(row.Attrs)+4), row.Attrs...)
		for range 4 {
			attrs = append(attrs, attr("onspare", "spare"))
		}
		row.Attrs = attrs[:len(row.Attrs)]
		out = append(out, row)
	}
	for i := range 8 {
		out = append(out, el(i, "script", attr("onspare", "spare")))
	}
	return out[:len(l)]
}

// wholly is all that rows hold, the room behind them too.
func wholly(l []api.Row) string {
	l = slices.Clone(l[:cap(l)])
	for i, row := range l {
		l[i].Attrs = row.Attrs[:cap(row.Attrs)]
	}
	return fmt.Sprintf("%#v", l)
}

// R4, R5: rows that are passed stay as they were, the room behind them too; answers do not hang on that room or on earlier calls.
func TestArguments(t *testing.T) {
	safe := safeOnes()
	lists := [][]api.Row{nil, safe, slices.Concat(safe, notSafe())}
	for _, row := range slices.Concat(safe, notSafe()) {
		lists = append(lists, []api.Row{row}, []api.Row{el(0, "p", attr("id", "x")), row, text(0, "x")})
	}
	for _, l := range lists {
		given := roomy(l)
		before := wholly(given)
		is := Safe(given)
		for _, row := range given {
			for _, a := range row.Attrs {
				Attr(row.Name, a)
			}
		}
		if wholly(given) != before {
			t.Errorf("%v: changed what was passed", l)
		}
		if is != wantSafe(l) || Safe(l) != is || Safe(given) != is {
			t.Errorf("%v: %t, without room %t", l, is, Safe(l))
		}
	}
}
