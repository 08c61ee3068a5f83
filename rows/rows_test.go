package rows

import (
	"go/parser"
	"go/token"
	"math"
	"slices"
	"strconv"
	"strings"
	"testing"

	"bolting/api"
)

// P4.1: the limits, and which of two errors is returned.
func TestCheckLimits(t *testing.T) {
	bad := el(0, "")
	under := append(chain(59), text(59, "x"))
	for i, x := range []struct {
		l    []api.Row
		want api.Errno
	}{
		{nil, 0}, {[]api.Row{}, 0}, {many(1), 0}, {many(4095), 0}, {many(4096), 0}, {many(4097), 2}, {many(10000), 2},
		{chain(59), 0}, {chain(60), 0}, {chain(61), 2}, {chain(62), 2}, {chain(200), 2}, {under, 0}, {append(chain(60), text(60, "")), 2},
		{append(chain(60), note(60, "")), 2}, {append(chain(61), text(0, "")), 2},
		{append(many(4095), bad), 40}, {append(many(4096), bad), 2}, {append([]api.Row{bad}, many(4095)...), 40}, {append([]api.Row{bad}, many(4096)...), 2},
		{[]api.Row{el(59, "b")}, 40}, {[]api.Row{el(60, "b")}, 2}, {[]api.Row{el(61, "b")}, 2}, {[]api.Row{el(math.MaxInt, "b")}, 2},
		{[]api.Row{el(0, "b"), el(59, "b")}, 40}, {[]api.Row{el(0, "b"), el(60, "b")}, 2},
		{[]api.Row{bad, el(60, "b")}, 2}, {[]api.Row{el(60, "b"), bad}, 2}, {[]api.Row{{Depth: 60, Kind: 7}}, 2}, {[]api.Row{{Depth: 59, Kind: 7}}, 40},
		{append(slices.Repeat([]api.Row{el(0, "b")}, 4095), text(1, "x")), 0},
	} {
		if e := Check(x.l); e != x.want || e != wantCheck(x.l) {
			t.Errorf("%d: %d rows: %d, want %d", i, len(x.l), e, x.want)
		}
	}
}

// P4.1: depths, and what a row must have and must not.
func TestCheckForm(t *testing.T) {
	a, b := attr("a", "1"), attr("b", "1")
	for i, x := range []struct {
		l    []api.Row
		want api.Errno
	}{
		{list(), 0}, {list()[1:], 40}, {list()[2:], 40}, {list()[7:], 0},
		{[]api.Row{el(0, "p")}, 0}, {[]api.Row{el(1, "p")}, 40}, {[]api.Row{text(1, "x")}, 40}, {[]api.Row{note(1, "x")}, 40},
		{[]api.Row{el(-1, "p")}, 40}, {[]api.Row{el(math.MinInt, "p")}, 40}, {[]api.Row{text(-1, "x")}, 40},
		{[]api.Row{el(0, "p"), el(-1, "p")}, 40}, {[]api.Row{el(-1, "p"), el(0, "p")}, 40}, {[]api.Row{el(0, "p"), el(1, "p"), text(-1, "")}, 40},
		{[]api.Row{el(0, "p"), el(1, "p")}, 0}, {[]api.Row{el(0, "p"), el(2, "p")}, 40}, {[]api.Row{el(0, "p"), el(3, "p")}, 40},
		{[]api.Row{el(0, "p"), text(1, "x")}, 0}, {[]api.Row{el(0, "p"), note(1, "x")}, 0},
		{[]api.Row{text(0, "x"), text(0, "x")}, 0}, {[]api.Row{text(0, "x"), el(1, "p")}, 40}, {[]api.Row{text(0, "x"), text(1, "x")}, 40},
		{[]api.Row{note(0, "x"), note(0, "x")}, 0}, {[]api.Row{note(0, "x"), el(1, "p")}, 40}, {[]api.Row{note(0, "x"), text(1, "x")}, 40},
		{[]api.Row{el(0, "p"), text(1, "x"), text(2, "x")}, 40}, {[]api.Row{el(0, "p"), text(1, "x"), text(1, "x")}, 0},
		{[]api.Row{el(0, "p"), el(1, "p"), el(2, "p"), el(0, "p"), el(1, "p")}, 0}, {[]api.Row{el(0, "p"), el(1, "p"), el(0, "p"), el(2, "p")}, 40},
		{[]api.Row{{}}, 40}, {[]api.Row{{Kind: 0, Data: "x"}}, 40}, {[]api.Row{{Kind: 0, Name: "p", Data: "x"}}, 40}, {[]api.Row{{Kind: 0, Attrs: []api.Attr{a}}}, 40},
		{[]api.Row{{Kind: 1}}, 0}, {[]api.Row{{Kind: 1, Name: "p"}}, 40}, {[]api.Row{{Kind: 1, Name: "p", Data: "x"}}, 40}, {[]api.Row{{Kind: 1, Data: "x", Attrs: []api.Attr{a}}}, 40}, {[]api.Row{{Kind: 1, Attrs: []api.Attr{}}}, 0},
		{[]api.Row{{Kind: 2}}, 0}, {[]api.Row{{Kind: 2, Name: "p"}}, 40}, {[]api.Row{{Kind: 2, Name: "p", Data: "x"}}, 40}, {[]api.Row{{Kind: 2, Data: "x", Attrs: []api.Attr{{}}}}, 40}, {[]api.Row{{Kind: 2, Attrs: []api.Attr{}}}, 0},
		{[]api.Row{{Kind: 3}}, 40}, {[]api.Row{{Kind: 3, Name: "p"}}, 40}, {[]api.Row{{Kind: 3, Data: "x"}}, 40}, {[]api.Row{{Kind: -1, Name: "p"}}, 40}, {[]api.Row{{Kind: -1}}, 40},
		{[]api.Row{{Kind: math.MaxInt}}, 40}, {[]api.Row{{Kind: math.MinInt, Name: "p"}}, 40}, {[]api.Row{{Kind: 1 << 32, Name: "p"}}, 40},
		{[]api.Row{el(0, "p", a)}, 0}, {[]api.Row{el(0, "p", a, b)}, 0}, {[]api.Row{el(0, "p", a, a)}, 40}, {[]api.Row{el(0, "p", a, attr("a", "2"))}, 40},
		{[]api.Row{el(0, "p", a, b, a)}, 40}, {[]api.Row{el(0, "p", b, a, attr("c", ""), attr("a", ""))}, 40}, {[]api.Row{el(0, "p", b, a, a)}, 40},
		{[]api.Row{el(0, "p", a, attr("A", "1"))}, 0}, {[]api.Row{el(0, "p", attr("", ""))}, 0}, {[]api.Row{el(0, "p", attr("", "1"), attr("", "2"))}, 40},
		{[]api.Row{el(0, "p", a), el(0, "p", a), el(1, "p", a)}, 0}, {[]api.Row{el(0, "P Q\xff")}, 0}, {[]api.Row{el(0, "p"), el(0, "p", a, a)}, 40},
	} {
		if e := Check(x.l); e != x.want || e != wantCheck(x.l) {
			t.Errorf("%d: %v: %d, want %d", i, x.l, e, x.want)
		}
	}
}

// P4.1: all short lists of rows of each sort, valid and not.
func TestAllChecked(t *testing.T) {
	from := append(someRows(), el(0, ""), api.Row{Kind: 3, Name: "p"}, api.Row{Kind: 1, Name: "p"}, api.Row{Kind: 0, Name: "p", Data: "x"}, el(0, "p", attr("a", "1"), attr("a", "2")))
	for _, l := range append(listsOf(from, 3, -1, 3), listsOf(from[:3], 5, 0, 3)...) {
		if e, want := Check(l), wantCheck(l); e != want {
			t.Errorf("%v: %d, want %d", l, e, want)
		}
	}
}

// indexes are all places of l and some that are none.
func indexes(l []api.Row) []int {
	out := []int{math.MinInt, math.MinInt + 1, -4096, -3, -2, len(l) + 1, len(l) + 2, 4096, 1 << 32, math.MaxInt - 1, math.MaxInt}
	for i := -1; i <= len(l); i++ {
		out = append(out, i)
	}
	return out
}

// P4.2, P4.4: outcomes written out.
func TestPlaces(t *testing.T) {
	l := list()
	for _, x := range []struct {
		i, end, parent int
		kids           []int
		text           string
	}{
		{-2, 0, -1, nil, ""}, {-1, 0, -1, []int{0, 7, 8}, "abcd"},
		{0, 7, -1, []int{1, 4, 5, 6}, "abc"}, {1, 4, 0, []int{2, 3}, "ab"}, {2, 3, 1, nil, "a"}, {3, 4, 1, nil, "b"}, {4, 5, 0, nil, ""},
		{5, 6, 0, nil, ""}, {6, 7, 0, nil, "c"}, {7, 8, -1, nil, ""}, {8, 9, -1, nil, "d"}, {9, 0, -1, nil, ""}, {10, 0, -1, nil, ""},
	} {
		if end, p := End(l, x.i), Parent(l, x.i); end != x.end || p != x.parent {
			t.Errorf("%d: %d, %d, want %d, %d", x.i, end, p, x.end, x.parent)
		}
		if kids, s := Kids(l, x.i), Text(l, x.i); !slices.Equal(kids, x.kids) || s != x.text {
			t.Errorf("%d: %v, %q, want %v, %q", x.i, kids, s, x.kids, x.text)
		}
	}
	div := []api.Row{el(0, "div"), text(1, "a"), text(1, "b")}
	if kids, s, n := Kids(div, 0), Text(div, 0), Normal(div); !slices.Equal(kids, []int{1, 2}) || s != "ab" || plain(n) != plain([]api.Row{el(0, "div"), text(1, "ab")}) {
		t.Error("the chapter's example:", kids, s, n)
	}
}

// checkPlaces is P4.2 and P4.4's Text for valid rows, at all indexes.
func checkPlaces(t *testing.T, l []api.Row) {
	t.Helper()
	top := treeOf(l)
	for _, i := range indexes(l) {
		end, parent, kids, s := 0, -1, []int(nil), ""
		if n := top.at(i); n != nil {
			kids, s = n.kidNumbers(), n.text()
			if i >= 0 {
				end, parent = n.end(), n.parent.number
			}
		}
		if x := End(l, i); x != end {
			t.Errorf("End(%v, %d): %d, want %d", l, i, x, end)
		}
		if x := Parent(l, i); x != parent {
			t.Errorf("Parent(%v, %d): %d, want %d", l, i, x, parent)
		}
		if x := Kids(l, i); !slices.Equal(x, kids) {
			t.Errorf("Kids(%v, %d): %v, want %v", l, i, x, kids)
		}
		if x := Text(l, i); x != s {
			t.Errorf("Text(%v, %d): %q, want %q", l, i, x, s)
		}
	}
}

// checkConsistent is P4.5's second sentence: a kid is one of its parent's, each row once.
func checkConsistent(t *testing.T, l []api.Row) {
	t.Helper()
	n := 0
	for i := -1; i < len(l); i++ {
		for _, kid := range Kids(l, i) {
			n++
			if Parent(l, kid) != i || i >= 0 && (kid <= i || End(l, kid) > End(l, i)) {
				t.Errorf("%v: kid %d of %d, whose parent is %d", l, kid, i, Parent(l, kid))
			}
		}
	}
	if n != len(l) {
		t.Errorf("%v: %d kids", l, n)
	}
}

// checkParts is P4.3's Take and Drop at all indexes.
func checkParts(t *testing.T, l []api.Row) {
	t.Helper()
	for _, i := range indexes(l) {
		var take, drop []api.Row
		e := api.ErrRowsPlace
		if i >= 0 && i < len(l) {
			take, drop, e = wantTake(l, i), wantDrop(l, i), api.OK
		}
		if x, f := Take(l, i); plain(x) != plain(take) || f != e {
			t.Errorf("Take(%v, %d): %v, %d, want %v, %d", l, i, x, f, take, e)
		}
		if x, f := Drop(l, i); plain(x) != plain(drop) || f != e {
			t.Errorf("Drop(%v, %d): %v, %d, want %v, %d", l, i, x, f, drop, e)
		}
	}
}

// checkNormal is P4.4's Normal, and P4.5's last sentence.
func checkNormal(t *testing.T, l []api.Row) {
	t.Helper()
	n := Normal(l)
	if want := wantNormal(l); plain(n) != plain(want) {
		t.Errorf("Normal(%v): %v, want %v", l, n, want)
	}
	if again := Normal(n); plain(again) != plain(n) {
		t.Errorf("Normal(%v) twice: %v, %v", l, n, again)
	}
	if Text(n, -1) != Text(l, -1) || !wantValid(n) {
		t.Errorf("Normal(%v): %v", l, n)
	}
}

// P4.2 to P4.5: all trees of up to five rows, and all of up to seven elements and texts.
func TestAllTrees(t *testing.T) {
	from := someRows()
	for _, l := range append(treesOf(from, 5), treesOf([]api.Row{from[0], from[2]}, 7)...) {
		checkPlaces(t, l)
		checkConsistent(t, l)
		checkParts(t, l)
		checkNormal(t, l)
	}
}

// checkPut is P4.3's Put and P4.5's first sentence.
func checkPut(t *testing.T, l []api.Row, parent, at int, sub []api.Row) {
	t.Helper()
	out, e := Put(l, parent, at, sub)
	want, f := wantPut(l, parent, at, sub)
	if plain(out) != plain(want) || e != f {
		t.Errorf("Put(%v, %d, %d, %v): %v, %d, want %v, %d", l, parent, at, sub, out, e, want, f)
	}
	if e != api.OK || t.Failed() {
		return
	}
	if c := Check(out); c != api.OK {
		t.Errorf("Put(%v, %d, %d, %v): Check %d", l, parent, at, sub, c)
	}
	rest := out
	for _, root := range treeOf(sub).kids {
		place := Kids(rest, parent)[at]
		if tree, e := Take(rest, place); plain(tree) != plain(rowsOf([]*node{root}, 0)) || e != api.OK {
			t.Errorf("Take after Put(%v, %d, %d, %v): %v, %d", l, parent, at, sub, tree, e)
		}
		rest, _ = Drop(rest, place)
	}
	if plain(rest) != plain(l) {
		t.Errorf("Drop after Put(%v, %d, %d, %v): %v", l, parent, at, sub, rest)
	}
}

// P4.3, P4.5: all short trees at all places of all short trees.
func TestAllPut(t *testing.T) {
	from := someRows()
	subs := append(treesOf(from[1:4], 2), []api.Row{el(1, "p")}, []api.Row{el(0, "p"), el(0, "")}, []api.Row{el(0, "p"), text(1, "x"), note(1, "y"), el(0, "q")})
	for _, l := range treesOf(slices.Delete(from, 3, 4), 3) {
		for parent := -2; parent <= len(l)+1; parent++ {
			for at := -1; at <= len(l)+1; at++ {
				for _, sub := range subs {
					checkPut(t, l, parent, at, sub)
				}
			}
		}
	}
}

// P4.3: Put's places and errors written out, those that apply together too.
func TestPut(t *testing.T) {
	l := list()
	sub := []api.Row{el(0, "i", attr("id", "y")), text(1, "z")}
	wrong, big, both := []api.Row{el(1, "i")}, chain(61), append(chain(61), el(0, ""))
	for i, x := range []struct {
		parent, at int
		sub        []api.Row
		want       api.Errno
		place      int
	}{
		{-1, 0, sub, 0, 0}, {-1, 1, sub, 0, 7}, {-1, 2, sub, 0, 8}, {-1, 3, sub, 0, 9}, {-1, 4, sub, 1, 0}, {-1, -1, sub, 1, 0},
		{0, 0, sub, 0, 1}, {0, 1, sub, 0, 4}, {0, 2, sub, 0, 5}, {0, 3, sub, 0, 6}, {0, 4, sub, 0, 7}, {0, 5, sub, 1, 0}, {0, -1, sub, 1, 0},
		{1, 0, sub, 0, 2}, {1, 1, sub, 0, 3}, {1, 2, sub, 0, 4}, {1, 3, sub, 1, 0}, {4, 0, sub, 0, 5}, {4, 1, sub, 1, 0},
		{4, math.MaxInt, sub, 1, 0}, {4, math.MinInt, sub, 1, 0}, {-1, math.MaxInt, sub, 1, 0}, {-1, math.MinInt, sub, 1, 0},
		{2, 0, sub, 41, 0}, {5, 0, sub, 41, 0}, {6, 0, sub, 41, 0}, {7, 0, sub, 41, 0}, {8, 0, sub, 41, 0},
		{9, 0, sub, 41, 0}, {10, 0, sub, 41, 0}, {-2, 0, sub, 41, 0}, {math.MaxInt, 0, sub, 41, 0}, {math.MinInt, 0, sub, 41, 0},
		{0, 0, wrong, 40, 0}, {-1, 0, wrong, 40, 0}, {0, 0, sub[1:], 40, 0}, {0, 0, big, 2, 0}, {-1, 0, big, 2, 0}, {0, 0, both, 40, 0},
		{2, -1, sub, 41, 0}, {2, 9, both, 41, 0}, {9, 0, wrong, 41, 0}, {-2, 0, big, 41, 0}, {2, 0, nil, 41, 0},
		{0, 5, wrong, 1, 0}, {0, -1, both, 1, 0}, {0, 5, big, 1, 0}, {-1, 4, wrong, 1, 0}, {0, 5, nil, 1, 0},
		{-1, 0, nil, 0, 0}, {0, 4, nil, 0, 0}, {1, 0, []api.Row{}, 0, 0}, {4, 0, nil, 0, 0},
	} {
		out, e := Put(l, x.parent, x.at, x.sub)
		if e != x.want || e != api.OK && len(out) > 0 {
			t.Errorf("%d: %v, %d, want %d", i, out, e, x.want)
		}
		if e == api.OK && len(x.sub) > 0 && (len(out) != 11 || out[x.place].Name != "i" || out[x.place+1].Data != "z") {
			t.Errorf("%d: %v, want it at %d", i, out, x.place)
		}
		checkPut(t, l, x.parent, x.at, x.sub)
	}
	checkPut(t, nil, -1, 0, sub)
	checkPut(t, nil, -1, 0, nil)
	checkPut(t, nil, -1, 1, sub)
	checkPut(t, nil, 0, 0, sub)
}

// P4.3: results just at a limit and just beyond it.
func TestPutLimits(t *testing.T) {
	wide := append([]api.Row{el(0, "b")}, many(4093)...)
	deep := append(chain(58), el(1, "c"))
	wrong := append(many(5000), el(1, "b"))
	for i, x := range []struct {
		l          []api.Row
		parent, at int
		sub        []api.Row
		want       api.Errno
	}{
		{nil, -1, 0, many(4096), 0}, {nil, -1, 0, many(4097), 2}, {many(4096), -1, 7, nil, 0}, {many(4096), -1, 7, many(1), 2}, {many(4095), -1, 4095, many(1), 0},
		{many(2048), -1, 2048, many(2048), 0}, {many(2048), -1, 2048, many(2049), 2}, {many(2049), -1, 0, many(2048), 2},
		{wide, 0, 0, many(1), 0}, {wide, 0, 0, many(2), 0}, {wide, 0, 0, many(3), 2}, {wide, -1, 5, chain(2), 0}, {wide, -1, 5, chain(3), 2},
		{wide, 0, 0, wrong, 40}, {wide, 0, 1, many(3), 1}, {wide, 1, 0, many(3), 41},
		{nil, -1, 0, chain(60), 0}, {nil, -1, 0, chain(61), 2}, {chain(60), -1, 0, chain(60), 0}, {chain(60), -1, 1, chain(61), 2},
		{chain(60), 59, 0, nil, 0}, {chain(60), 59, 0, many(1), 2}, {chain(60), 59, 0, chain(1), 2}, {chain(60), 58, 0, many(3), 0}, {chain(60), 58, 1, chain(1), 0}, {chain(60), 58, 1, chain(2), 2},
		{deep, 57, 0, chain(1), 0}, {deep, 57, 0, chain(2), 0}, {deep, 57, 0, chain(3), 2}, {deep, 58, 0, chain(58), 0}, {deep, 58, 0, chain(59), 2},
		{deep, 57, 0, append(chain(3), el(0, "b")), 2}, {deep, 57, 0, append([]api.Row{el(0, "b")}, chain(3)...), 2}, {deep, 57, 0, append(chain(2), text(2, "x")), 2}, {deep, 57, 0, append(chain(2), text(1, "x")), 0},
	} {
		out, e := Put(x.l, x.parent, x.at, x.sub)
		if e != x.want || e == api.OK && len(out) != len(x.l)+len(x.sub) || e != api.OK && len(out) > 0 {
			t.Errorf("%d: %d rows, %d, want %d", i, len(out), e, x.want)
		}
		if want, _ := wantPut(x.l, x.parent, x.at, x.sub); plain(out) != plain(want) {
			t.Errorf("%d: rows that are not those wanted", i)
		}
	}
}

// P4.4: Normal's outcomes written out.
func TestNormal(t *testing.T) {
	a, b, none := text(0, "a"), text(0, "b"), text(0, "")
	for i, x := range []struct{ l, want []api.Row }{
		{nil, nil}, {[]api.Row{none}, nil}, {[]api.Row{none, none}, nil}, {[]api.Row{a}, []api.Row{a}}, {[]api.Row{a, b}, []api.Row{text(0, "ab")}},
		{[]api.Row{a, none, b}, []api.Row{text(0, "ab")}}, {[]api.Row{none, none, a, none, b, none}, []api.Row{text(0, "ab")}}, {[]api.Row{a, b, a, b}, []api.Row{text(0, "abab")}},
		{[]api.Row{a, note(0, ""), b}, []api.Row{a, note(0, ""), b}}, {[]api.Row{none, note(0, "c"), none}, []api.Row{note(0, "c")}}, {[]api.Row{note(0, "c"), note(0, "d")}, []api.Row{note(0, "c"), note(0, "d")}},
		{[]api.Row{a, el(0, "p"), b}, []api.Row{a, el(0, "p"), b}}, {[]api.Row{a, el(0, "p"), text(1, ""), b}, []api.Row{a, el(0, "p"), b}},
		{[]api.Row{el(0, "p"), text(1, "a"), b}, []api.Row{el(0, "p"), text(1, "a"), b}}, {[]api.Row{el(0, "p"), text(1, "a"), text(1, ""), none, b}, []api.Row{el(0, "p"), text(1, "a"), b}},
		{[]api.Row{el(0, "p"), text(1, "a"), el(0, "p"), text(1, "b")}, []api.Row{el(0, "p"), text(1, "a"), el(0, "p"), text(1, "b")}},
		{[]api.Row{el(0, "p"), el(1, "b"), text(2, "a"), text(1, "b"), text(0, "c"), text(0, "d")}, []api.Row{el(0, "p"), el(1, "b"), text(2, "a"), text(1, "b"), text(0, "cd")}},
		{[]api.Row{el(0, "p", attr("a", "1"), attr("b", "")), text(1, "x"), text(1, "y")}, []api.Row{el(0, "p", attr("a", "1"), attr("b", "")), text(1, "xy")}},
		{[]api.Row{text(0, "\x00\xff"), text(0, " \n")}, []api.Row{text(0, "\x00\xff \n")}},
	} {
		if n := Normal(x.l); plain(n) != plain(x.want) {
			t.Errorf("%d: %v, want %v", i, n, x.want)
		}
		checkNormal(t, x.l)
	}
}

// P4.4: rows that differ in one place, and nil and empty lists.
func TestSame(t *testing.T) {
	a, b := attr("a", "1"), attr("b", "2")
	base := []api.Row{el(0, "p", a, b), text(1, "x"), note(1, "y"), text(0, "")}
	others := [][]api.Row{nil, base[:3], base[:1], append(slices.Clone(base), text(0, "")), base[1:], {base[0], base[2], base[1], base[3]}}
	for i := range base {
		for _, change := range []func(*api.Row){
			func(x *api.Row) { x.Depth++ }, func(x *api.Row) { x.Depth-- }, func(x *api.Row) { x.Kind ^= 3 }, func(x *api.Row) { x.Kind = 9 },
			func(x *api.Row) { x.Name += "q" }, func(x *api.Row) { x.Name += "\x00" }, func(x *api.Row) { x.Data += "q" }, func(x *api.Row) { x.Name, x.Data = x.Data, x.Name+"z" },
			func(x *api.Row) { x.Attrs = append(slices.Clone(x.Attrs), attr("c", "3")) }, func(x *api.Row) { x.Attrs = append(slices.Clone(x.Attrs), attr("", "")) },
		} {
			other := slices.Clone(base)
			change(&other[i])
			others = append(others, other)
		}
	}
	for _, attrs := range [][]api.Attr{nil, {a}, {b}, {b, a}, {a, a}, {b, b}, {a, b, b}, {attr("A", "1"), b}, {attr("a", ""), b}, {a, attr("b", "3")}, {a, attr("c", "2")}, {attr("1", "a"), b}} {
		other := slices.Clone(base)
		other[0].Attrs = attrs
		others = append(others, other)
	}
	for _, l := range others {
		if Same(base, l) || Same(l, base) || !Same(l, slices.Clone(l)) {
			t.Errorf("Same: %v", l)
		}
	}
	if !Same(base, slices.Clone(base)) || !Same(nil, nil) || !Same(nil, []api.Row{}) || !Same([]api.Row{}, nil) {
		t.Error("Same: not the same")
	}
	empty := []api.Row{{Kind: api.KindText, Attrs: []api.Attr{}}}
	if !Same(empty, []api.Row{{Kind: api.KindText}}) || !Same([]api.Row{{Kind: api.KindText}}, empty) {
		t.Error("Same: no attributes")
	}
}

// P4.4: all pairs of short trees.
func TestAllSame(t *testing.T) {
	a, b := attr("a", "1"), attr("b", "1")
	from := []api.Row{el(0, "p"), el(0, "p", a), el(0, "p", a, b), el(0, "p", b, a), el(0, "q"), text(0, ""), text(0, "x"), note(0, "x")}
	lists := treesOf(from, 2)
	for _, l := range lists {
		for _, m := range lists {
			if u, want := Same(l, m), plain(l) == plain(m); u != want {
				t.Errorf("Same(%v, %v): %t", l, m, u)
			}
		}
	}
}

// R1: rows that are not valid, at any index.
func TestNotValid(t *testing.T) {
	var from []api.Row
	for _, depth := range []int{math.MinInt, -60, -1, 0, 1, 2, 59, 60, math.MaxInt} {
		for _, row := range []api.Row{el(depth, "p", attr("a", ""), attr("a", "")), text(depth, "x"), {Depth: depth, Kind: 9, Data: "x"}} {
			from = append(from, row)
		}
	}
	subs := [][]api.Row{nil, {el(0, "p")}, {text(5, "")}}
	call := func(l []api.Row) {
		Check(l)
		Normal(l)
		Same(l, l)
		for _, i := range []int{math.MinInt, -2, -1, 0, 1, 2, 3, 4, math.MaxInt} {
			End(l, i)
			Parent(l, i)
			Kids(l, i)
			Text(l, i)
			Take(l, i)
			Drop(l, i)
			for _, at := range []int{math.MinInt, -1, 0, 1, 2, math.MaxInt} {
				for _, sub := range subs {
					Put(l, i, at, sub)
				}
				Put(l, i, at, l)
			}
		}
	}
	for _, x := range from {
		call([]api.Row{x})
		for _, y := range from {
			call([]api.Row{x, y})
			for _, z := range from {
				call([]api.Row{x, y, z})
			}
		}
	}
}

// P4.1 to P4.4: many rows, levels, attributes and bytes, beyond the limits of Check, where time by the square would not end in time.
func TestLong(t *testing.T) {
	const n, levels = 1 << 18, 1 << 16
	wide := append([]api.Row{el(0, "p")}, slices.Repeat([]api.Row{text(1, "xy")}, n)...)
	whole := strings.Repeat("xy", n)
	if Text(wide, 0) != whole || Text(wide, -1) != whole || len(Kids(wide, 0)) != n || End(wide, 0) != n+1 || Parent(wide, n) != 0 {
		t.Error("many texts")
	}
	if l := Normal(wide); len(l) != 2 || l[1].Data != whole || l[1].Depth != 1 {
		t.Error("Normal of many texts")
	}
	if l, e := Take(wide, n); e != api.OK || len(l) != 1 || l[0].Depth != 0 {
		t.Error("Take of many texts")
	}
	if l, e := Drop(wide, 1); e != api.OK || len(l) != n || !Same(l, wide[:n]) {
		t.Error("Drop of many texts")
	}
	deep := append(chain(levels), text(levels, "x"), text(0, "y"))
	if End(deep, 0) != levels+1 || Parent(deep, levels) != levels-1 || Text(deep, 0) != "x" || !slices.Equal(Kids(deep, -1), []int{0, levels + 1}) || !slices.Equal(Kids(deep, 7), []int{8}) {
		t.Error("many levels")
	}
	if l, e := Take(deep, 1000); e != api.OK || len(l) != levels-1000+1 || l[len(l)-1].Depth != levels-1000 {
		t.Error("Take of many levels")
	}
	if !Same(Normal(deep), deep) {
		t.Error("Normal of many levels")
	}
	var attrs []api.Attr
	for i := range n {
		attrs = append(attrs, attr("a"+strconv.Itoa(i), ""))
	}
	if e := Check([]api.Row{el(0, "p", attrs...)}); e != api.OK {
		t.Error("Check of many attributes:", e)
	}
	if e := Check([]api.Row{el(0, "p", append(attrs, attrs[0])...)}); e != api.ErrRowsForm {
		t.Error("Check of many attributes, two with the same name:", e)
	}
	if _, e := Put(wide[:4000], 0, 0, wide); e != api.ErrBig {
		t.Error("Put of many rows:", e)
	}
}

// The chapter: the package imports only api.
func TestImports(t *testing.T) {
	f, err := parser.ParseFile(token.NewFileSet(), "rows.go", nil, parser.ImportsOnly)
	if err != nil {
		t.Fatal(err)
	}
	for _, x := range f.Imports {
		if x.Path.Value != `"bolting/api"` {
			t.Errorf("imports %s", x.Path.Value)
		}
	}
}
