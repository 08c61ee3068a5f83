package clean

import (
	"fmt"
	"go/parser"
	"go/token"
	"math"
	"math/rand/v2"
	"slices"
	"strings"
	"testing"

	"bolting/api"
	"bolting/build"
	"bolting/config"
	"bolting/risk"
	"bolting/rows"
	"bolting/write"
)

// The chapter's functions, as it gives them.
var (
	_ func(l []api.Row, c api.Conf, safely bool) ([]api.Row, api.Errno) = Rows
	_ func(x api.Row, c api.Conf, safely bool) []api.Attr               = Attrs
)

// hold holds Rows to an outcome, and the outcome to the model.
func hold(t *testing.T, l []api.Row, c api.Conf, safely bool, want []api.Row) {
	t.Helper()
	out, e := Rows(l, c, safely)
	if e != api.OK || plain(out) != plain(want) {
		t.Errorf("%s by %+v, %t: %s, %d, want %s", plain(l), c, safely, plain(out), e, plain(want))
	}
	if model, e := wantRows(l, c, safely); e != api.OK || plain(model) != plain(want) {
		t.Errorf("%s by %+v, %t: the model %s, %d, want %s", plain(l), c, safely, plain(model), e, plain(want))
	}
}

// check holds Rows against the model, and P13.3.
func check(t *testing.T, l []api.Row, c api.Conf, safely bool) {
	t.Helper()
	out, e := Rows(l, c, safely)
	want, wantE := wantRows(l, c, safely)
	if e != wantE || plain(out) != plain(want) {
		t.Fatalf("%s by %+v, %t: %s, %d, want %s, %d", plain(l), c, safely, plain(out), e, plain(want), wantE)
	}
	if e != api.OK {
		return
	}
	if safely && !risk.Safe(out) {
		t.Fatalf("%s by %+v: %s is not safe", plain(l), c, plain(out))
	}
	if again, e := Rows(out, c, safely); e != api.OK || !rows.Same(again, out) {
		t.Fatalf("%s by %+v, %t: %s, again %s, %d", plain(l), c, safely, plain(out), plain(again), e)
	}
	if !rows.Same(out, rows.Normal(out)) || rows.Check(out) != api.OK {
		t.Fatalf("%s by %+v, %t: %s", plain(l), c, safely, plain(out))
	}
	if safely && !slices.ContainsFunc(c.Replace, risk.Element) {
		checkSteps(t, l, c, out)
	}
	if all, e := Rows(l, config.All(), false); e != api.OK || !rows.Same(all, rows.Normal(l)) {
		t.Fatalf("%s: by all %s, %d", plain(l), plain(all), e)
	}
}

// checkSteps holds that rows are what is kept first, and of this what is safe.
func checkSteps(t *testing.T, l []api.Row, c api.Conf, want []api.Row) {
	t.Helper()
	kept, e := Rows(l, c, false)
	safe, e2 := Rows(kept, config.All(), true)
	if e != api.OK || e2 != api.OK || !rows.Same(safe, want) {
		t.Fatalf("%s by %+v: %s, in two steps %s, %d, %d", plain(l), c, plain(want), plain(safe), e, e2)
	}
}

// The chapter's examples.
func TestExamples(t *testing.T) {
	l := trees("(b/onclick=x 'a (script 'y ) )")
	hold(t, l, config.All(), true, trees("(b 'a )"))
	hold(t, l, api.Conf{Replace: []string{"b"}, Comments: true}, true, trees("'a"))
}

// P13.1: the attributes that are kept, in order.
func TestAttrs(t *testing.T) {
	named := api.Conf{AttrsAllow: true, Attrs: []string{"id", "href", "onclick"}, Per: []api.Per{per("a", "x", "src"), per("b", "y"), per("p")}}
	unnamed := named
	unnamed.AttrsAllow = false
	data := api.Conf{AttrsAllow: true, DataAttrs: true, Attrs: []string{"id"}}
	for i, x := range []struct {
		element, attrs string
		c              api.Conf
		unsafely, safe string
	}{
		{"a", "", config.All(), "", ""},
		{"a", "", named, "", ""},
		{"a", "id=1", api.Conf{AttrsAllow: true}, "", ""},
		{"a", "id=1", config.All(), "id=1", "id=1"},
		{"a", "id", config.All(), "id", "id"},
		{"a", "id=1", named, "id=1", "id=1"},
		{"a", "id=1", unnamed, "", ""},
		{"a", "ID=1/Id=2", named, "", ""},
		{"a", "ID=1/Id=2", unnamed, "ID=1/Id=2", "ID=1/Id=2"},
		{"a", "z=1/id=2/y=3/x=4/w=5", named, "id=2/x=4", "id=2/x=4"},
		{"b", "z=1/id=2/y=3/x=4/w=5", named, "id=2/y=3", "id=2/y=3"},
		{"p", "z=1/id=2/y=3/x=4/w=5", named, "id=2", "id=2"},
		{"a", "z=1/id=2/y=3/x=4/w=5", unnamed, "z=1/y=3/w=5", "z=1/y=3/w=5"},
		{"b", "z=1/id=2/y=3/x=4/w=5", unnamed, "z=1/x=4/w=5", "z=1/x=4/w=5"},
		{"p", "z=1/id=2/y=3/x=4/w=5", unnamed, "z=1/y=3/x=4/w=5", "z=1/y=3/x=4/w=5"},
		{"a", "x=4/id=2", named, "x=4/id=2", "x=4/id=2"},
		{"a", "id=2/x=4", named, "id=2/x=4", "id=2/x=4"},
		{"a", "id=1/id=2/z=3/id=1", named, "id=1/id=2/id=1", "id=1/id=2/id=1"},
		{"a", "id=1/id=2/z=3/z=3", unnamed, "z=3/z=3", "z=3/z=3"},
		{"p", "data-x=1/data-=2/data=3/id=4/data-x=5", data, "data-x=1/id=4/data-x=5", "data-x=1/id=4/data-x=5"},
		{"a", "onclick=1/id=2", config.All(), "onclick=1/id=2", "id=2"},
		{"a", "id=2/onclick=1", named, "id=2/onclick=1", "id=2"},
		{"a", "onclick=1/onload=2/on=3/onx", config.All(), "onclick=1/onload=2/on=3/onx", "on=3"},
		{"a", "onclick=1/onload=2", unnamed, "onload=2", ""},
		{"a", "href=javascript:x", named, "href=javascript:x", ""},
		{"a", "href=https:x", named, "href=https:x", "href=https:x"},
		{"a", "href=javascript:x/href=https:x/id=javascript:x", named, "href=javascript:x/href=https:x/id=javascript:x", "href=https:x/id=javascript:x"},
		{"b", "href=javascript:x", named, "href=javascript:x", "href=javascript:x"},
		{"area", "href=JAVA\tSCRIPT:x/id=1", named, "href=JAVA\tSCRIPT:x/id=1", "id=1"},
		{"form", "action=javascript:/x", config.All(), "action=javascript:/x", "x"},
		{"button", "action=javascript:/formaction=javascript:", config.All(), "action=javascript:/formaction=javascript:", "action=javascript:"},
		{"script", "src=x/id=1", config.All(), "src=x/id=1", "id=1"},
		{"img", "src=javascript:x/srcdoc=y", config.All(), "src=javascript:x/srcdoc=y", "src=javascript:x/srcdoc=y"},
		{"iframe", "srcdoc=y/src=z", config.All(), "srcdoc=y/src=z", "src=z"},
		{"embed", "src=y/id=z", config.All(), "src=y/id=z", "id=z"},
		{"object", "data=y/src=z", config.All(), "data=y/src=z", "src=z"},
		{"a", "href=x/title=y/onclick=z/src=u/class=v", config.Plain(), "href=x/title=y/class=v", "href=x/title=y/class=v"},
		{"img", "href=x/title=y/src=u/id=v", config.Plain(), "title=y/src=u/id=v", "title=y/src=u/id=v"},
	} {
		row := el(0, x.element, attrsOf(x.attrs)...)
		for safely, want := range map[bool]string{false: x.unsafely, true: x.safe} {
			if is := plainAttrs(Attrs(row, x.c, safely)); is != plainAttrs(attrsOf(want)) {
				t.Errorf("%d: %s, %t:%s, want %s", i, x.element, safely, is, want)
			}
			if model := plainAttrs(wantAttrs(row, x.c, safely)); model != plainAttrs(attrsOf(want)) {
				t.Errorf("%d: the model%s, want %s", i, model, want)
			}
		}
	}
}

// P13.1: whether an attribute is kept hangs on its name and the element's alone; that the element itself is kept or not does not matter, nor its depth.
func TestAttrsAlone(t *testing.T) {
	l := attrsOf("id=1/onclick=2/title=3")
	for _, c := range []api.Conf{{Allow: true}, {Elements: []string{"b", "script"}}, {Replace: []string{"b", "script"}}, {Comments: true}} {
		for _, name := range []string{"b", "script"} {
			for _, row := range []api.Row{el(0, name, l...), el(7, name, l...), el(-1, name, l...), el(math.MaxInt, name, l...)} {
				if is := plainAttrs(Attrs(row, c, false)); is != plainAttrs(l) {
					t.Errorf("%+v: %s", c, is)
				}
				if is := plainAttrs(Attrs(row, c, true)); is != plainAttrs(attrsOf("id=1/title=3")) {
					t.Errorf("%+v, safely: %s", c, is)
				}
			}
		}
	}
}

// P13.1: names and values of any bytes, and configurations that may not be: what the names say holds all the same.
func TestAttrsOfAnyBytes(t *testing.T) {
	l := []api.Attr{attr("", ""), attr("\xff", "\x00"), attr("a b", "<"), attr("ON", "x"), attr("on\x00", "x")}
	row := el(0, "\xff", l...)
	for _, c := range []api.Conf{config.All(), {DataAttrs: true}, {AttrsAllow: true, Attrs: []string{"", "\xff", "a b", "ON", "on\x00", "", "on\x00"}}, {AttrsAllow: true, Per: []api.Per{per("\xff", "", "\xff"), per("\xff", "a b", "ON", "on\x00")}, Attrs: []string{"ON"}}} {
		if is := plainAttrs(Attrs(row, c, false)); is != plainAttrs(l) {
			t.Errorf("%+v: %s", c, is)
		}
		if is := plainAttrs(Attrs(row, c, true)); is != plainAttrs(l[:4]) {
			t.Errorf("%+v, safely: %s", c, is)
		}
	}
	if is := Attrs(row, api.Conf{AttrsAllow: true, Attrs: []string{"x"}, Per: []api.Per{per("\xfe", "\xff")}}, false); len(is) > 0 {
		t.Errorf("kept %v", is)
	}
}

// many are so many names.
func many(n int) []string {
	var l []string
	for i := range n {
		l = append(l, fmt.Sprint("x", i))
	}
	return l
}

// P13.2: the error of the configuration first, then that of the rows; no rows beside an error.
func TestErrors(t *testing.T) {
	confs := []struct {
		c    api.Conf
		want api.Errno
	}{
		{config.All(), 0}, {config.Plain(), 0}, {api.Conf{}, 0}, {api.Conf{Elements: many(64), Attrs: many(64)}, 0},
		{api.Conf{Elements: many(65)}, 2}, {api.Conf{Per: []api.Per{per("a", many(65)...)}}, 2},
		{api.Conf{Attrs: []string{""}}, 121}, {api.Conf{Elements: []string{"B"}}, 121}, {api.Conf{Replace: []string{"b c"}, DataAttrs: true}, 121},
		{api.Conf{Replace: []string{"b", "b"}}, 122}, {api.Conf{Per: []api.Per{per("a", "x"), per("a", "y")}}, 122},
		{api.Conf{Elements: []string{"b"}, Replace: []string{"b"}}, 120}, {api.Conf{DataAttrs: true}, 120},
	}
	lists := []struct {
		l    []api.Row
		want api.Errno
	}{
		{nil, 0}, {[]api.Row{}, 0}, {trees("(b 'a )"), 0}, {chain(60, "b"), 0}, {slices.Repeat(trees("'x"), 4096), 0},
		{chain(61, "b"), 2}, {chain(61, "script"), 2}, {slices.Repeat(trees("'x"), 4097), 2}, {slices.Repeat(trees("!x"), 4097), 2}, {[]api.Row{el(60, "")}, 2},
		{[]api.Row{el(1, "b")}, 40}, {[]api.Row{el(-1, "b")}, 40}, {[]api.Row{el(0, "")}, 40}, {[]api.Row{{}}, 40}, {[]api.Row{{Kind: 3}}, 40}, {[]api.Row{{Kind: -1, Name: "b"}}, 40},
		{[]api.Row{text(0, "x"), text(1, "x")}, 40}, {[]api.Row{el(0, "b"), text(2, "x")}, 40}, {[]api.Row{note(0, "x"), el(1, "b")}, 40},
		{[]api.Row{el(0, "script"), text(2, "x")}, 40}, {[]api.Row{el(0, "script"), el(1, "")}, 40}, {[]api.Row{el(0, "b", attr("x", "1"), attr("x", "2"))}, 40},
		{[]api.Row{el(0, "b", attr("onx", "1"), attr("onx", "2"))}, 40}, {[]api.Row{{Kind: api.KindComment, Name: "b"}}, 40}, {[]api.Row{{Kind: api.KindText, Attrs: attrsOf("onx=1")}}, 40},
		{[]api.Row{{Name: "b", Data: "x"}}, 40}, {[]api.Row{el(0, "b"), el(math.MaxInt, "b")}, 2}, {[]api.Row{el(math.MinInt, "b")}, 40},
	}
	for i, x := range confs {
		for j, y := range lists {
			want := x.want
			if want == api.OK {
				want = y.want
			}
			for _, safely := range []bool{false, true} {
				out, e := Rows(y.l, x.c, safely)
				if e != want || e != api.OK && len(out) > 0 {
					t.Errorf("%d, %d: %d rows, %d, want %d", i, j, len(out), e, want)
				}
				check(t, y.l, x.c, safely)
			}
		}
	}
}

// conf reads a configuration from words: +x an element that stays, the others going, -x one that goes, ~x one that is replaced, ! that comments stay.
func conf(s string) api.Conf {
	var c api.Conf
	for _, word := range strings.Fields(s) {
		switch name := word[1:]; word[0] {
		case '!':
			c.Comments = true
		case '+':
			c.Allow, c.Elements = true, append(c.Elements, name)
		case '-':
			c.Elements = append(c.Elements, name)
		case '~':
			c.Replace = append(c.Replace, name)
		}
	}
	return c
}

// P13.2: outcomes written out, which are the same safely and not.
func TestRows(t *testing.T) {
	for _, x := range []struct{ l, c, want string }{
		{"", "", ""},
		{"", "+b", ""},
		// Comments.
		{"!x", "", ""},
		{"!x", "!", "!x"},
		{"!", "", ""},
		{"!", "!", "!"},
		{"!x !y", "!", "!x !y"},
		{"!x (b !y ) !z", "", "(b )"},
		{"!x (b !y ) !z", "!", "!x (b !y ) !z"},
		{"'a !x 'b", "", "'ab"},
		{"'a !x 'b", "!", "'a !x 'b"},
		{"'a !x !y 'b !z", "", "'ab"},
		{"(b 'a !x 'b !y (i ) !z 'c )", "", "(b 'ab (i ) 'c )"},
		{"(b !x )", "! ~b", "!x"},
		{"(b !x )", "~b", ""},
		{"(b !x )", "! -b", ""},
		// Texts.
		{"'a", "", "'a"},
		{"'a", "+b", "'a"},
		{"'", "", ""},
		{"' '", "", ""},
		{"'a ' 'b", "", "'ab"},
		{"' 'a '", "", "'a"},
		{"'a 'b 'c", "!", "'abc"},
		{"(b ' )", "", "(b )"},
		{"(b ' ) ' (b ' )", "", "(b ) (b )"},
		{"'a (b ) 'c", "", "'a (b ) 'c"},
		{"'a (b 'c ) 'd", "", "'a (b 'c ) 'd"},
		{"' !x '", "!", "!x"},
		// Elements that stay.
		{"(b )", "", "(b )"},
		{"(b )", "+b", "(b )"},
		{"(b 'a (i 'c (u 'd ) ) 'e ) 'f", "", "(b 'a (i 'c (u 'd ) ) 'e ) 'f"},
		{"(B )", "-b", "(B )"},
		{"(B )", "+b", ""},
		{"(b/x=1/y=2 (i/y=3 ) )", "", "(b/x=1/y=2 (i/y=3 ) )"},
		// Elements that go: at the root, as the first, a middle and the last kid.
		{"(b )", "-b", ""},
		{"(b )", "+i", ""},
		{"(b 'a (i 'c ) !x )", "! -b", ""},
		{"(b 'a ) 'd", "-b", "'d"},
		{"'d (b 'a )", "-b", "'d"},
		{"'d (b 'a ) 'e", "-b", "'de"},
		{"(b ) (b ) (b )", "-b", ""},
		{"(b 'x ) (b (i ) ) 'a (b ) (b 'y )", "-b", "'a"},
		{"(p (b 'a ) 'c (i 'd ) )", "-b", "(p 'c (i 'd ) )"},
		{"(p 'c (b 'a ) 'e (i 'd ) )", "-b", "(p 'ce (i 'd ) )"},
		{"(p 'c (i 'd ) (b 'a ) )", "-b", "(p 'c (i 'd ) )"},
		{"(p 'c (i 'd ) (b 'a ) ) 'f", "-b", "(p 'c (i 'd ) ) 'f"},
		{"(p (b (i (u 'a ) ) ) ) (i 'c )", "-b", "(p ) (i 'c )"},
		{"(p (b (b 'a ) 'c ) 'd )", "-b", "(p 'd )"},
		{"(p (i (b ) (b ) ) (b ) (u (b ) ) )", "-b", "(p (i ) (u ) )"},
		{"(p (b (p (p 'a ) ) ) (p 'c ) )", "-b", "(p (p 'c ) )"},
		// Elements in the place of which their kids stand.
		{"(b )", "~b", ""},
		{"(b ) (b )", "~b", ""},
		{"(p (b ) )", "~b", "(p )"},
		{"'a (b ) 'c", "~b", "'ac"},
		{"(b 'a )", "~b", "'a"},
		{"(b 'a (i 'c ) )", "~b", "'a (i 'c )"},
		{"'x (b 'a (i 'c ) 'd ) 'y", "~b", "'xa (i 'c ) 'dy"},
		{"(p (b 'a (i 'c ) ) 'd )", "~b", "(p 'a (i 'c ) 'd )"},
		{"(p 'd (b 'a (i 'c ) ) 'e )", "~b", "(p 'da (i 'c ) 'e )"},
		{"(p 'd (b (i 'c ) 'a ) )", "~b", "(p 'd (i 'c ) 'a )"},
		{"(b 'a ) (b 'c )", "~b", "'ac"},
		{"(b (i ) ) (b (i ) )", "~b", "(i ) (i )"},
		{"(b ' ) '", "~b", ""},
		// Within each other.
		{"(b (b (b 'a ) ) )", "~b", "'a"},
		{"(b 'x (i 'a (u 'c ) ) 'y )", "~b ~i", "'xa (u 'c ) 'y"},
		{"(b (i (u (p 'a ) ) ) ) 'c", "~b ~i", "(u (p 'a ) ) 'c"},
		{"(p (b (u (i (s 'a ) 'c ) 'd ) 'e ) 'f )", "~b ~i", "(p (u (s 'a ) 'cd ) 'ef )"},
		{"(b 'x (i 'a (u 'c ) ) 'y )", "~b -i", "'xy"},
		{"(b (i 'a ) (i 'c ) ) 'y", "~b -i", "'y"},
		{"(i 'x (b 'a ) )", "~b -i", ""},
		{"(b (i (b (u 'a ) ) ) (u (b 'c ) 'd ) )", "~b -i", "(u 'cd )"},
		{"(b (p (i 'a ) 'c ) (i ) 'd ) 'e", "~b -i", "(p 'c ) 'de"},
		{"(p (b (b (p 'a ) ) (p 'c ) ) (p 'd ) )", "~b", "(p (p 'a ) (p 'c ) (p 'd ) )"},
		{"(b 'a !x 'c ) !y 'd", "~b", "'acd"},
		{"(b 'a !x 'c ) !y 'd", "! ~b", "'a !x 'c !y 'd"},
		{"(u 'x (b 'a ) )", "~b +i", ""},
		{"(b (i 'a ) (u 'c ) )", "~b +i", "(i 'a )"},
		{"(i 'x (b 'a (i ) (u ) 'c ) 'y )", "~b +i", "(i 'xa (i ) 'cy )"},
	} {
		for _, safely := range []bool{false, true} {
			hold(t, trees(x.l), conf(x.c), safely, trees(x.want))
			check(t, trees(x.l), conf(x.c), safely)
		}
	}
}

// P13.2: elements that are never safe go safely with all they have, whatever the configuration says; not safely they go by it.
func TestNeverSafe(t *testing.T) {
	for _, name := range []string{"base", "embed", "frame", "iframe", "link", "meta", "object", "script"} {
		for _, x := range []struct{ l, c, unsafely, safe string }{
			{"(N )", "", "(N )", ""},
			{"(N 'a )", "+N", "(N 'a )", ""},
			{"(N 'a )", "+b", "", ""},
			{"(N 'a )", "-N", "", ""},
			{"(N 'a )", "~N", "'a", ""},
			{"(N 'a ) 'b", "~N", "'ab", "'b"},
			{"'c (N 'a ) 'b", "~N", "'cab", "'cb"},
			{"'c (N 'a ) 'b", "", "'c (N 'a ) 'b", "'cb"},
			{"(p (N (b 'a ) ) (b 'c ) )", "~N", "(p (b 'a ) (b 'c ) )", "(p (b 'c ) )"},
			{"(p (b (N (b 'a ) ) ) 'c )", "~b", "(p (N 'a ) 'c )", "(p 'c )"},
			{"(p (b (N (b 'a ) ) ) 'c )", "~b ~N", "(p 'ac )", "(p 'c )"},
			{"(p (b (N (b 'a ) ) ) 'c )", "-b", "(p 'c )", "(p 'c )"},
			{"(N (N 'a ) 'b ) (N 'c )", "~N", "'abc", ""},
			{"(N (b (N ) ) ) !x", "!", "(N (b (N ) ) ) !x", "!x"},
			{"(N !x )", "! ~N", "!x", ""},
			{"(b/id=1 'a (N/src=x/id=y 'c ) 'd )", "", "(b/id=1 'a (N/src=x/id=y 'c ) 'd )", "(b/id=1 'ad )"},
			{"(Nx 'a (xN ) )", "", "(Nx 'a (xN ) )", "(Nx 'a (xN ) )"},
			{"(Nx 'a )", "~N", "(Nx 'a )", "(Nx 'a )"},
		} {
			of := func(s string) string { return strings.ReplaceAll(s, "N", name) }
			hold(t, trees(of(x.l)), conf(of(x.c)), false, trees(of(x.unsafely)))
			hold(t, trees(of(x.l)), conf(of(x.c)), true, trees(of(x.safe)))
			check(t, trees(of(x.l)), conf(of(x.c)), true)
		}
		capital := []api.Row{el(0, strings.ToUpper(name)), text(1, "a")}
		hold(t, capital, config.All(), true, capital)
	}
}

// P13.2: what stays has the attributes that Attrs answers, at each depth and behind what goes.
func TestAttrsOfRows(t *testing.T) {
	c := conf("~u -i")
	c.AttrsAllow, c.Attrs, c.Per = true, []string{"id", "onclick"}, []api.Per{per("b", "x"), per("u", "y")}
	l := trees("(b/x=1/y=2/id=3/onclick=4 (u/y=5/id=6 (p/x=7/id=8/y=9 'a ) (i/id=1 ) ) ) (p/onclick=1/x=2 (b/y=1/x=javascript: ) ) (s )")
	hold(t, l, c, false, trees("(b/x=1/id=3/onclick=4 (p/id=8 'a ) ) (p/onclick=1 (b/x=javascript: ) ) (s )"))
	hold(t, l, c, true, trees("(b/x=1/id=3 (p/id=8 'a ) ) (p (b/x=javascript: ) ) (s )"))
	hold(t, trees("(a/href=javascript:x/id=1 ) (b/href=javascript:x ) (a/href=y )"), config.All(), true, trees("(a/id=1 ) (b/href=javascript:x ) (a/href=y )"))
	hold(t, trees("(form/action=javascript:x (input/formaction=javascript:x/name=y ) )"), config.All(), true, trees("(form (input/name=y ) )"))
	// The attributes are asked for by the element that has them, not by one around it which goes.
	c = api.Conf{AttrsAllow: true, Per: []api.Per{per("b", "x"), per("p", "y")}, Replace: []string{"b"}}
	hold(t, trees("(b/x=1 (p/x=2/y=3 ) )"), c, true, trees("(p/y=3 )"))
}

// P13.2: the deepest trees and the most rows that there may be.
func TestLimits(t *testing.T) {
	for _, safely := range []bool{false, true} {
		deepest := append(chain(59, "b"), text(59, "x"))
		hold(t, deepest, config.All(), safely, deepest)
		hold(t, deepest, conf("~b"), safely, trees("'x"))
		hold(t, deepest, conf("-b"), safely, nil)
		hold(t, chain(60, "b"), config.All(), safely, chain(60, "b"))
		hold(t, chain(60, "b", "i"), conf("~b"), safely, chain(30, "i"))
		hold(t, chain(60, "b", "i"), conf("~i"), safely, chain(30, "b"))
		hold(t, append(chain(58, "b"), el(58, "i"), el(59, "u"), el(59, "i"), el(59, "u"), el(58, "b")), conf("-i"), safely, append(chain(58, "b"), el(58, "b")))
		hold(t, append(chain(59, "b"), el(59, "i"), text(59, "x"), el(59, "i")), conf("~i"), safely, append(chain(59, "b"), text(59, "x")))
		hold(t, append(chain(60, "b"), el(0, "p"), el(1, "p")), conf("~b"), safely, chain(2, "p"))
		for _, row := range []api.Row{text(0, "x"), el(0, "b"), el(0, "script"), note(0, "x"), text(0, "")} {
			most := slices.Repeat([]api.Row{row}, 4096)
			for _, c := range []api.Conf{config.All(), {}, {Allow: true}, conf("~b"), config.Plain()} {
				check(t, most, c, safely)
			}
		}
		l := []api.Row{el(0, "p")}
		for range 64 {
			l = append(l, el(1, "b"))
			for depth := range 57 {
				l = append(l, el(depth+2, []string{"i", "u", "s", "script"}[depth%4]))
			}
			l = append(l, text(59, "x"), text(59, "y"), note(59, "z"), text(3, "v"), text(1, "w"))
		}
		l = append(l, slices.Repeat([]api.Row{el(1, "i"), text(2, "x")}, 2)...)
		l = append(l, slices.Repeat([]api.Row{text(0, "x")}, 4096-len(l))...)
		for _, c := range []string{"", "!", "~b", "~i ~u ~s", "-s", "~s", "-u ~script", "+p +b", "~p ~b ~script", "~p ~b ~i ~u ~s ~script"} {
			check(t, l, conf(c), safely)
		}
	}
	hold(t, slices.Repeat([]api.Row{text(0, "x")}, 4096), config.All(), true, []api.Row{text(0, strings.Repeat("x", 4096))})
	hold(t, slices.Repeat([]api.Row{text(0, "x"), el(0, "b")}, 2048), conf("~b"), true, []api.Row{text(0, strings.Repeat("x", 2048))})
}

// P13.2, P13.3: all small trees by all small configurations.
func TestAllSmall(t *testing.T) {
	several := []api.Row{el(0, "b", attr("onx", "1"), attr("id", "2")), el(0, "i"), el(0, "script"), text(0, "t"), text(0, ""), note(0, "c")}
	confs := []string{"", "!", "~b", "-b", "+b", "~b -i", "~i -b !", "~b ~i", "~b +i", "+b +script !", "~script", "~script -b", "~b -script", "~b ~script !", "~i +b"}
	for _, l := range treesOf(several, 3) {
		for _, c := range confs {
			check(t, l, conf(c), false)
			check(t, l, conf(c), true)
		}
	}
	few := []api.Row{el(0, "b"), el(0, "i"), el(0, "u"), text(0, "t")}
	for i, l := range treesOf(few, 5) {
		check(t, l, conf([]string{"~b -i", "~b ~i", "~b +i +u", "-b -i"}[i%4]), i%8 < 4)
	}
}

// randomTrees are valid rows of elements, texts and comments.
func randomTrees(r *rand.Rand, n int) []api.Row {
	names := strings.Fields("a b i p form script iframe img x")
	attrs := attrsOf("id=1/href=javascript:x/href=y/onclick=z/action=javascript:/data-x=1/data-=2/src=s/title=t")
	deepest := 0
	var l []api.Row
	for range n {
		depth := max(0, deepest-r.IntN(3)*r.IntN(4))
		row := text(depth, []string{"", "t", "u", "<b>", "\xff"}[r.IntN(5)])
		switch r.IntN(5) {
		case 0:
			row = note(depth, "c")
		case 1, 2, 3:
			row = el(depth, names[r.IntN(len(names))])
			for _, i := range r.Perm(len(attrs))[:r.IntN(4)] {
				if !slices.ContainsFunc(row.Attrs, func(a api.Attr) bool { return a.Name == attrs[i].Name }) {
					row.Attrs = append(row.Attrs, attrs[i])
				}
			}
			depth++
		}
		l = append(l, row)
		deepest = min(depth, api.MaxDepth-1)
	}
	return l
}

// some are those of a list on which a coin falls.
func some(r *rand.Rand, l []string, n int) []string {
	return slices.DeleteFunc(slices.Clone(l), func(string) bool { return r.IntN(n) > 0 })
}

func randomConf(r *rand.Rand) api.Conf {
	c := api.Conf{Allow: r.IntN(3) == 0, AttrsAllow: r.IntN(2) == 0, Comments: r.IntN(2) == 0}
	c.DataAttrs = c.AttrsAllow && r.IntN(2) == 0
	elements := strings.Fields("a b i p form script iframe img x")
	c.Replace = some(r, elements, 4)
	rate := 4
	if c.Allow {
		rate = 2
	}
	c.Elements = slices.DeleteFunc(some(r, elements, rate), func(name string) bool { return slices.Contains(c.Replace, name) })
	c.Attrs = some(r, strings.Fields("id href onclick title"), 2)
	for _, name := range some(r, elements, 2) {
		c.Per = append(c.Per, per(name, some(r, strings.Fields("action src data-x"), 2)...))
	}
	return c
}

// P13.2, P13.3: random trees and configurations, against the model.
func TestRandom(t *testing.T) {
	for seed := range uint64(4000) {
		r := rand.New(rand.NewPCG(seed, 13))
		l, c := randomTrees(r, r.IntN(40)), randomConf(r)
		check(t, l, c, seed%2 == 0)
		check(t, l, config.Plain(), true)
		check(t, l, config.All(), true)
	}
}

// numbered are trees whose nodes each tell their number, in what stays of each.
func numbered(l []api.Row) []api.Row {
	out := slices.Clone(l)
	for i := range out {
		if out[i].Kind == api.KindElement {
			out[i].Attrs = append([]api.Attr{attr("data-n", fmt.Sprint(i))}, out[i].Attrs...)
		} else {
			out[i].Data = fmt.Sprint(i, ";")
		}
	}
	return out
}

// numbersOf are the numbers that a row of what was numbered tells: of a text those of all that it is joined from.
func numbersOf(t *testing.T, row api.Row) []int {
	s := row.Data
	if row.Kind == api.KindElement {
		s = row.Attrs[0].Value + ";"
	}
	var out []int
	for part := range strings.SplitSeq(strings.TrimSuffix(s, ";"), ";") {
		n := 0
		if _, err := fmt.Sscan(part, &n); err != nil {
			t.Fatal(err)
		}
		out = append(out, n)
	}
	return out
}

// checkPlaces holds that each node of a result is one that was passed, in order, with attributes that it had, as deep as what stays around it.
func checkPlaces(t *testing.T, l, out []api.Row) {
	t.Helper()
	stays := map[int]bool{}
	last := -1
	for _, row := range out {
		numbers := numbersOf(t, row)
		if row.Kind != api.KindText && len(numbers) != 1 {
			t.Fatalf("%v from %v", row, numbers)
		}
		for _, n := range numbers {
			if n <= last {
				t.Fatalf("%d stands behind %d", n, last)
			}
			last = n
			depth := 0
			for p := rows.Parent(l, n); p >= 0; p = rows.Parent(l, p) {
				if stays[p] {
					depth++
				}
			}
			if l[n].Kind != row.Kind || l[n].Name != row.Name || row.Depth != depth {
				t.Fatalf("%v from %v, depth %d", row, l[n], depth)
			}
			stays[n] = row.Kind == api.KindElement
			left := l[n].Attrs
			for _, a := range row.Attrs {
				at := slices.Index(left, a)
				if at < 0 {
					t.Fatalf("%v from %v", row, l[n])
				}
				left = left[at+1:]
			}
		}
	}
}

// P13.2, P13.3: each node of the result is a node that was passed, in order; its depth is that of the innermost element around it which stays, and one.
func TestPlaces(t *testing.T) {
	for seed := range uint64(2000) {
		r := rand.New(rand.NewPCG(seed, 31))
		l, c := numbered(randomTrees(r, 1+r.IntN(60))), randomConf(r)
		if c.AttrsAllow {
			c.DataAttrs = true
		}
		for _, safely := range []bool{false, true} {
			out, e := Rows(l, c, safely)
			if e != api.OK {
				t.Fatal(e)
			}
			checkPlaces(t, l, out)
			checkStays(t, l, c, safely, out)
		}
	}
}

// checkStays holds that just those nodes stay which the configuration and safely leave, and that stand in none that goes.
func checkStays(t *testing.T, l []api.Row, c api.Conf, safely bool, out []api.Row) {
	t.Helper()
	var stay, want []int
	for _, row := range out {
		stay = append(stay, numbersOf(t, row)...)
	}
	goes := func(n int) bool {
		return l[n].Kind == api.KindElement && (safely && risk.Element(l[n].Name) || config.Element(c, l[n].Name) == api.Gone)
	}
	for n, row := range l {
		p := n
		for p >= 0 && !goes(p) {
			p = rows.Parent(l, p)
		}
		if p < 0 && (row.Kind != api.KindComment || c.Comments) && (row.Kind != api.KindElement || config.Element(c, row.Name) == api.Keep) {
			want = append(want, n)
		}
	}
	if !slices.Equal(stay, want) {
		t.Fatalf("%s by %+v, %t: %v stay, want %v", plain(l), c, safely, stay, want)
	}
}

// P13.3: in two steps, but where an element that is never safe is replaced: then P13.2 says that it goes with what it has, which the first of two steps would let out.
func TestTwoSteps(t *testing.T) {
	l := trees("'a (script 'b ) 'c")
	hold(t, l, conf("~script"), true, trees("'ac"))
	hold(t, l, conf("~script"), false, trees("'abc"))
	hold(t, l, conf("-script"), true, trees("'ac"))
	for _, c := range []string{"", "-script", "~b", "+b", "+b +script"} {
		out, _ := Rows(l, conf(c), true)
		checkSteps(t, l, conf(c), out)
	}
}

// P13.3: what keeps everything changes nothing but texts that are not joined or are empty, if not safely.
func TestAll(t *testing.T) {
	l := slices.Clip(trees("(script/src=x 'a ) (b/onclick=1/id=2 !c 'd ) (a/href=javascript: ) (iframe/srcdoc=y ) (X/ON=1 )"))
	hold(t, l, config.All(), false, l)
	hold(t, append(l, text(0, ""), text(0, "x"), text(0, "y")), config.All(), false, append(l, text(0, "xy")))
	hold(t, l, config.All(), true, trees("(b/id=2 !c 'd ) (a ) (X/ON=1 )"))
}

// P13.2: documents, read and written.
func TestDocuments(t *testing.T) {
	for _, x := range []struct{ s, want string }{
		{"<b onclick=x>a</b><script>y</script>", "<b>a</b>"},
		{"<p class=c>a<u title=t>b</u><font>c</font>d", "<p class=\"c\">a<u title=\"t\">b</u>d</p>"},
		{"<table><tr><td colspan=2 rowspan=3 href=x>a", "<table><tr><td colspan=\"2\" rowspan=\"3\">a</td></tr></table>"},
		{"a<!--b-->c<template><p>d</p></template>e", "ace"},
		{"<img src=x onerror=y><a href='java&#10;script:x' id=z>b</a>", "<img src=\"x\"><a id=\"z\">b</a>"},
		{"<style><b></style><b>c", "<b>c</b>"},
	} {
		l, e := build.Parse(x.s)
		out, e2 := Rows(l, config.Plain(), true)
		if s := write.Rows(out); s != x.want || e != api.OK || e2 != api.OK {
			t.Errorf("%s: %s, %d, %d", x.s, s, e, e2)
		}
	}
}

// W4, P13.3: trees that are legal and safe, and whose names are kept, stay as they are.
func TestStays(t *testing.T) {
	for _, s := range []string{"<p id=\"x\">a&lt;b</p>", "<ul><li>a</li><li><a href=\"y\">b</a></li></ul>", "<b>a<i>c</i></b>d", "<img src=\"x\" alt=\"\">"} {
		l, e := build.Parse(s)
		if e != api.OK || !write.Legal(l) || !risk.Safe(l) {
			t.Fatal(s)
		}
		for _, c := range []api.Conf{config.All(), config.Plain()} {
			hold(t, l, c, true, l)
		}
	}
}

// R1: many attributes, on which a function that takes time by the square would not end in time; names and texts that are long.
func TestLong(t *testing.T) {
	const n = 1 << 16
	row := el(0, "b")
	for i, name := range many(n) {
		row.Attrs = append(row.Attrs, attr(name, "x"), attr(fmt.Sprint("on", i), "x"))
	}
	if l := Attrs(row, config.All(), false); len(l) != 2*n || l[2*n-1] != row.Attrs[2*n-1] {
		t.Error("Attrs")
	}
	if l := Attrs(row, config.All(), true); len(l) != n || l[n-1] != row.Attrs[2*n-2] {
		t.Error("Attrs, safely")
	}
	out, e := Rows([]api.Row{row}, config.Plain(), true)
	if e != api.OK || len(out) != 1 || len(out[0].Attrs) != 0 {
		t.Error("Rows")
	}
	long := strings.Repeat("x", 1<<20)
	c := api.Conf{Replace: []string{long + "r"}}
	l := []api.Row{text(0, long), el(0, long+"r", attr(long, long)), text(1, long), el(1, long), note(0, long), text(0, long)}
	hold(t, l, c, true, []api.Row{text(0, long+long), el(0, long), text(0, long)})
	l = nil
	for range 2048 {
		l = append(l, el(0, "script"), text(1, strings.Repeat("x", 1000)))
	}
	hold(t, l, config.All(), true, nil)
	hold(t, l, conf("~script"), false, []api.Row{text(0, strings.Repeat("x", 2048000))})
}

// The chapter: the package imports api, rows, risk and config.
func TestImports(t *testing.T) {
	f, err := parser.ParseFile(token.NewFileSet(), "clean.go", nil, parser.ImportsOnly)
	if err != nil {
		t.Fatal(err)
	}
	may := []string{`"bolting/api"`, `"bolting/rows"`, `"bolting/risk"`, `"bolting/config"`}
	for _, x := range f.Imports {
		if !slices.Contains(may, x.Path.Value) {
			t.Errorf("imports %s", x.Path.Value)
		}
	}
}
