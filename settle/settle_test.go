package settle

import (
	"fmt"
	"go/parser"
	"go/token"
	"math"
	"math/rand/v2"
	"slices"
	"strings"
	"testing"

	"bolting/api"
	"bolting/build"
	"bolting/config"
	"bolting/risk"
	"bolting/rows"
	"bolting/write"
)

// The chapter's functions, as it gives them.
var (
	_ func(l []api.Row) bool                                                 = Stable
	_ func(l []api.Row, c api.Conf, safely bool) ([]api.Row, int, api.Errno) = Trees
	_ func(s string, c api.Conf, safely bool) (string, api.Errno)            = Text
)

// short is what a failure tells of long things.
func short(s string) string {
	if len(s) > 500 {
		return fmt.Sprintf("%s.. (%d bytes)", s[:500], len(s))
	}
	return s
}

// hold holds Trees to an outcome: to what is written of it, and the number of rounds; and the outcome to the model.
func hold(t *testing.T, l []api.Row, c api.Conf, safely bool, want string, wantN int) {
	t.Helper()
	out, n, e := Trees(l, c, safely)
	if s := write.Rows(out); e != api.OK || n != wantN || s != want {
		t.Errorf("%s by %+v, %t: %s, %d, %d, want %s, %d", short(plain(l)), c, safely, short(s), n, e, short(want), wantN)
	}
	if model, n, e := wantTrees(l, c, safely); e != api.OK || n != wantN || write.Rows(model) != want {
		t.Errorf("%s by %+v, %t: the model %s, %d, %d, want %s, %d", short(plain(l)), c, safely, short(write.Rows(model)), n, e, short(want), wantN)
	}
	check(t, l, c, safely)
}

// check holds Stable and Trees against the model, and P14.4; it answers the rounds, and whether there were trees.
func check(t *testing.T, l []api.Row, c api.Conf, safely bool) string {
	t.Helper()
	if rows.Check(l) == api.OK && Stable(l) != wantStable(l) {
		t.Fatalf("%s: stable %t, want %t", short(plain(l)), Stable(l), wantStable(l))
	}
	out, n, e := Trees(l, c, safely)
	want, wantN, wantE := wantTrees(l, c, safely)
	if e != wantE || n != wantN || plain(out) != plain(want) {
		t.Fatalf("%s by %+v, %t: %s, %d, %d, want %s, %d, %d", short(plain(l)), c, safely, short(plain(out)), n, e, short(plain(want)), wantN, wantE)
	}
	if e == api.OK {
		checkSettled(t, out, c, safely)
	}
	return fmt.Sprint(n, len(out) > 0)
}

// checkSettled holds that what Trees answers is stable, safe, and answered again.
func checkSettled(t *testing.T, out []api.Row, c api.Conf, safely bool) {
	t.Helper()
	if !Stable(out) || rows.Check(out) != api.OK {
		t.Fatalf("%s: not stable", short(plain(out)))
	}
	if safely && !risk.Safe(out) {
		t.Fatalf("%s: not safe", short(plain(out)))
	}
	if back, e := build.Parse(write.Rows(out)); e != api.OK || plain(back) != plain(out) {
		t.Fatalf("%s: back comes %s, %d", short(plain(out)), short(plain(back)), e)
	}
	if second, n, e := Trees(out, c, safely); e != api.OK || n != 1 || plain(second) != plain(out) {
		t.Fatalf("%s by %+v, %t: again %s, %d, %d", short(plain(out)), c, safely, short(plain(second)), n, e)
	}
}

// The chapter's examples.
func TestExamples(t *testing.T) {
	if s, e := Text("<p>a<script>b</script>", config.Plain(), true); s != "<p>a</p>" || e != api.OK {
		t.Errorf("%s, %d", s, e)
	}
	l := trees("(p (p ) )")
	if s := write.Rows(l); s != "<p><p></p></p>" {
		t.Error(s)
	}
	out, n, e := Trees(l, config.All(), false)
	if plain(out) != plain(trees("(p ) (p ) (p )")) || n != 2 || e != api.OK {
		t.Errorf("%s, %d, %d", plain(out), n, e)
	}
}

// P14.1: trees that come back.
func TestStable(t *testing.T) {
	for _, s := range []string{
		"", "(p )", "'a", "!a", "(p 'a<b&c>" + `"` + " ) 'd", "(p ) (p )", "'a (b ) 'c", "'a !x 'c", "(b 'a ) 'c", "(x-y 'a )", "(b (b (b ) ) )",
		// Texts and values of any characters.
		`'\s`, `'\n`, `'\n\n`, `(p '\na )`, `(pre '\n )`, `(textarea '\na )`, `(style '\na )`, "'&amp;", "'<b>", `'\h`, `'\u`, "'-->", `'</p>`,
		`(a/b=c/d/e=\nx<y>"&'\h )`, `(a/b/c/a )`, `(a/x"y=1/'=2/<=3/\ex=4/\e=5 )`,
		// Comments.
		"!", "!-", "!--", "!a-", "!a--", "!a--!", "!a->b", "!<b>", "!<!--", "!a>b", "!--a", `!\n\s`,
		// What has texts alone.
		"(style )", "(style 'a<b>&amp;c )", "(style 'a< )", "(style '</ )", "(style '</style )", "(style '</stylex> )", `(style '<\vstyle"> )`, "(style '</script> )", "(style '<!--a )",
		"(script '</style> )", "(xmp '</p> )", "(iframe '<p> )", "(noembed 'a ) (noframes 'a )", "(textarea '</textarea> )", "(title '<b>&amp; )", "(title )",
		// Elements within others.
		"(p (button (p ) ) )", "(li (ul (li ) ) )", "(li (ol (li ) ) )", "(dd (dl (dt ) ) )", "(td (table (tr ) ) )", "(tr (td (table (tr (td ) ) ) ) )", "(option (select (option ) ) )",
		"(optgroup (option ) )", "(a (a ) )", "(button (button ) )", "(div (p ) (div ) )", "(p (template (p ) ) )", "(tr (td (p ) ) (th ) )", "(p (br ) (img/src=x ) )", "(table (p ) )",
	} {
		if l := trees(s); !Stable(l) || !wantStable(l) {
			t.Errorf("%s: %t, the model %t, want true", s, Stable(l), wantStable(l))
		}
	}
}

// P14.1: trees that do not come back.
func TestUnstable(t *testing.T) {
	for _, s := range []string{
		// Texts that Normal changes, and bytes that are not left as they are.
		"'a 'b", "'", "(b ' )", "(b 'a 'b )", "'a '", "(p ) '", `'\r`, `'\ra`, `'a\r\nb`, `(p '\r )`, `'\0`, `'a\f`, `(style '\r )`, `(textarea '\r )`, `!\r`, `!\0`, `!\f`, `(a/b=\r )`, `(a/b=\0 )`, `(a/b=\f )`,
		// Names that may not be.
		"(B )", "(bX )", "(1 )", "(- )", `(b\sc )`, "(b> )", `(b\v )`, `(b\n )`, `(b\0 )`, `(b\f )`, "(<b )", "(body )", "(html 'a )", "(head )", "(frameset )",
		"(a/B=1 )", `(a/b\sc=1 )`, "(a/b>=1 )", `(a/b\v=1 )`, `(a/b\ec=1 )`, `(a/b\0=1 )`, `(a/b\f=1 )`, `(a/\s=1 )`,
		// Comments.
		"!-->", "!>", "!->", "!->a", "!>a", "!a-->b", "!a--!>b", "!--!>",
		// What has nothing, or texts alone.
		"(br 'a )", "(br (b ) )", "(br !a )", "(img (img ) )", "(input ' )", "(style '</style> )", "(style 'a</STYLE>b )", `(style '</style\s )`, `(style '</style\v )`, "(script '</script> )", "(xmp '</xmp> )",
		"(style (b ) )", "(style !a )", "(style 'a 'b )", "(style ' )", "(textarea (b ) )", "(textarea !a )", "(textarea 'a 'b )", "(title 'a (b ) )",
		// Elements within others.
		"(p (p ) )", "(p (b (p ) ) )", "(p (div ) )", "(p (xmp ) )", "(p (li ) )", "(p (hr ) )", "(li (li ) )", "(li (b (li ) ) )", "(li (p (li ) ) )", "(dd (dt ) )", "(td (td ) )", "(td (tr ) )", "(tr (tr ) )",
		"(tbody (thead ) )", "(option (option ) )", "(option (optgroup ) )", "(p (ul (li (p (p ) ) ) ) )", "(button (p (p ) ) )", "(p ) (p (p ) )", "(p (table ) )",
	} {
		if l := trees(s); Stable(l) || wantStable(l) {
			t.Errorf("%s: %t, the model %t, want false", s, Stable(l), wantStable(l))
		}
	}
}

// P14.1: attributes come back in their order; a list that is nil is one that is empty.
func TestStableAttrs(t *testing.T) {
	for _, l := range [][]api.Row{{el(0, "b", attr("y", "1"), attr("x", "2"))}, {el(0, "b", attr("x", "1"), attr("y", "1"))}, {{Name: "b", Attrs: []api.Attr{}}}, {}} {
		if !Stable(l) {
			t.Error(plain(l))
		}
	}
}

// P14.1: trees whose writing is refused, or is just not: of too many bytes, too many rows, too deep.
func TestStableLimits(t *testing.T) {
	rowsOf := func(n int, row api.Row) []api.Row { return slices.Repeat([]api.Row{row}, n) }
	for i, x := range []struct {
		l    []api.Row
		want bool
	}{
		{[]api.Row{text(0, strings.Repeat("a", 65536))}, true},
		{[]api.Row{text(0, strings.Repeat("a", 65537))}, false},
		{[]api.Row{text(0, strings.Repeat("&", 13107)+"a")}, true},
		{[]api.Row{text(0, strings.Repeat("&", 13107)+"aa")}, false},
		{[]api.Row{el(0, "b", attr("x", strings.Repeat("a", 65536-12)))}, true},
		{[]api.Row{el(0, "b", attr("x", strings.Repeat("a", 65536-11)))}, false},
		{[]api.Row{el(0, "style"), text(1, strings.Repeat("&", 65536-15))}, true},
		{[]api.Row{el(0, "style"), text(1, strings.Repeat("&", 65536-14))}, false},
		{[]api.Row{note(0, strings.Repeat("-", 65536-7))}, true},
		{[]api.Row{note(0, strings.Repeat("-", 65536-6))}, false},
		{rowsOf(4096, el(0, "b")), true},
		{rowsOf(4097, el(0, "b")), false},
		{rowsOf(4096, note(0, "")), true},
		{rowsOf(4097, note(0, "")), false},
		{rowsOf(4096, note(0, "123456789")), true},
		{rowsOf(4096, note(0, "1234567890")), false},
		{chain(60, "b"), true},
		{chain(61, "b"), false},
		{append(chain(59, "b"), text(59, "x")), true},
		{append(chain(60, "b"), text(60, "x")), false},
		{append(chain(59, "b"), el(59, "br")), true},
		{append(chain(60, "b"), el(60, "br")), false},
		{[]api.Row{el(0, "style"), text(1, "</style>"+strings.Repeat("<b>", 61))}, false},
		{slices.Repeat(trees("(p (p ) )"), 2048), false},
	} {
		if is := Stable(x.l); is != x.want || wantStable(x.l) != x.want {
			t.Errorf("%d: %t, want %t", i, is, x.want)
		}
	}
}

// R1: Stable ends for rows that are none of trees, and Trees refuses them.
func TestNoTrees(t *testing.T) {
	depths := []int{0, 1, 2, -1, 60, 61, math.MaxInt, math.MinInt, 1 << 40}
	kinds := []int{api.KindElement, api.KindText, api.KindComment, 3, -1, math.MaxInt, math.MinInt}
	for seed := range uint64(4000) {
		r := rand.New(rand.NewPCG(seed, 14))
		var l []api.Row
		for range 1 + r.IntN(6) {
			row := api.Row{Depth: depths[r.IntN(len(depths))], Kind: kinds[r.IntN(len(kinds))], Name: []string{"", "b", "br", "style", "p"}[r.IntN(5)], Data: []string{"", "x", "<", "</style>"}[r.IntN(4)]}
			if r.IntN(3) == 0 {
				row.Attrs = attrsOf("x=1/x=2/y")
			}
			l = append(l, row)
		}
		Stable(l)
		out, n, e := Trees(l, config.All(), true)
		if want := rows.Check(l); e != want || e != api.OK && (n != 0 || len(out) > 0) {
			t.Fatalf("%s: %s, %d, %d, want %d", plain(l), plain(out), n, e, want)
		}
	}
}

// P14.2: the error of the configuration first, then that of the rows; no rows and no rounds beside an error.
func TestErrors(t *testing.T) {
	confs := []struct {
		c    api.Conf
		want api.Errno
	}{
		{config.All(), 0}, {config.Plain(), 0}, {api.Conf{}, 0}, {api.Conf{Elements: many(64), Attrs: many(64)}, 0},
		{api.Conf{Elements: many(65)}, 2}, {api.Conf{Per: []api.Per{per("a", many(65)...)}}, 2},
		{api.Conf{Attrs: []string{""}}, 121}, {api.Conf{Elements: []string{"B"}}, 121}, {api.Conf{Replace: []string{"b c"}, DataAttrs: true}, 121},
		{api.Conf{Replace: []string{"b", "b"}}, 122}, {api.Conf{Per: []api.Per{per("a", "x"), per("a", "y")}}, 122},
		{api.Conf{Elements: []string{"b"}, Replace: []string{"b"}}, 120}, {api.Conf{DataAttrs: true}, 120},
	}
	lists := []struct {
		l    []api.Row
		want api.Errno
	}{
		{nil, 0}, {[]api.Row{}, 0}, {trees("(b 'a )"), 0}, {trees("(p (p ) )"), 0}, {chain(60, "b"), 0}, {slices.Repeat(trees("'x"), 4096), 0},
		{chain(61, "b"), 2}, {chain(61, "script"), 2}, {slices.Repeat(trees("'x"), 4097), 2}, {slices.Repeat(trees("!x"), 4097), 2}, {[]api.Row{el(60, "")}, 2},
		{[]api.Row{el(1, "b")}, 40}, {[]api.Row{el(-1, "b")}, 40}, {[]api.Row{el(0, "")}, 40}, {[]api.Row{{}}, 40}, {[]api.Row{{Kind: 3}}, 40},
		{[]api.Row{text(0, "x"), text(1, "x")}, 40}, {[]api.Row{el(0, "p"), el(1, "p"), el(3, "p")}, 40}, {[]api.Row{el(0, "b", attr("x", "1"), attr("x", "2"))}, 40},
		{[]api.Row{{Kind: api.KindComment, Name: "b"}}, 40}, {[]api.Row{{Kind: api.KindText, Attrs: attrsOf("onx=1")}}, 40}, {[]api.Row{{Name: "b", Data: "x"}}, 40},
	}
	for i, x := range confs {
		for j, y := range lists {
			want := x.want
			if want == api.OK {
				want = y.want
			}
			for _, safely := range []bool{false, true} {
				out, n, e := Trees(y.l, x.c, safely)
				if e != want || (e == api.OK) != (n > 0) || e != api.OK && len(out) > 0 {
					t.Errorf("%d, %d: %d rows, %d, %d, want %d", i, j, len(out), n, e, want)
				}
				check(t, y.l, x.c, safely)
			}
		}
	}
}

// P14.2: outcomes written out, which are the same safely and not.
func TestTrees(t *testing.T) {
	for _, x := range []struct {
		l, c, want string
		n          int
	}{
		// In round 1: what comes back as it is, and what does once it is filtered.
		{"", "", "", 1},
		{"", "!", "", 1},
		{"", "+b", "", 1},
		{"(p 'a )", "!", "<p>a</p>", 1},
		{"(p 'a ) !x (br )", "!", "<p>a</p><!--x--><br>", 1},
		{"(p 'a ) !x (br )", "", "<p>a</p><br>", 1},
		{"'a 'b", "", "ab", 1},
		{"'", "", "", 1},
		{"(b 'a ' ) ' 'c", "", "<b>a</b>c", 1},
		{"(p (p ) )", "-p", "", 1},
		{"(p (p 'a ) 'b )", "~p", "ab", 1},
		{"(p (b (p ) ) 'x )", "-b", "<p>x</p>", 1},
		{"(br !x )", "", "<br>", 1},
		{"(br ' )", "", "<br>", 1},
		{"(br (b 'x ) )", "-b", "<br>", 1},
		{"!-->a", "", "", 1},
		{"(style 'x</style>y ) 'z", "-style", "z", 1},
		{"(style 'x</style>y ) 'z", "~style", "x&lt;/style&gt;yz", 1},
		{"(style (b 'x ) )", "-b", "<style></style>", 1},
		{"(style (b 'x ) 'y )", "~b", "<style>xy</style>", 1},
		{"(textarea 'x !y 'z )", "", "<textarea>xz</textarea>", 1},
		{"(B 'a )", "+b", "", 1},
		{"(a/B=1 'x )", "+b", "", 1},
		// In round 2: what is written is not what comes back.
		{"(p (p ) )", "", "<p></p><p></p><p></p>", 2},
		{"(p 'a (p 'b ) 'c )", "", "<p>a</p><p>b</p>c<p></p>", 2},
		{"(p 'a (b 'b (p 'c ) ) )", "", "<p>a<b>b</b></p><p>c</p><p></p>", 2},
		{"(p (button (p 'a ) ) )", "~button", "<p></p><p>a</p><p></p>", 2},
		{"(p (div 'a ) )", "", "<p></p><div>a</div><p></p>", 2},
		{"(li (li 'a ) )", "", "<li></li><li>a</li>", 2},
		{"(ul (li (ul (li 'a ) ) ) )", "~ul", "<li></li><li>a</li>", 2},
		{"(tr (td (table (tr 'a ) ) ) )", "~table", "<tr><td></td></tr><tr>a</tr>", 2},
		{"(br 'a )", "", "<br>", 2},
		{"(br (p (p ) ) ) 'x", "", "<br>x", 2},
		{"(style 'a</style>b )", "", "<style>a</style>b", 2},
		{"(style 'a</style><b>c</b> )", "-b", "<style>a</style>", 2},
		{"(style 'a</style><b>c</b> )", "~b", "<style>a</style>c", 2},
		{"(style 'a</style>b<!--x-->c )", "", "<style>a</style>bc", 2},
		{"(style 'a</style>b<!--x-->c )", "!", "<style>a</style>b<!--x-->c", 2},
		{`(style 'a</style><b\sx=1\sy=2> )`, "@x", `<style>a</style><b y="2"></b>`, 2},
		{"!a--><b>", "!", "<!--a--><b>--&gt;</b>", 2},
		{"!a--><b>", "! -b", "<!--a-->", 2},
		{"!a--><b>", "! ~b", "<!--a-->--&gt;", 2},
		{"!>a", "!", "<!---->a--&gt;", 2},
		{"(style !x )", "!", "<style><!--x--></style>", 2},
		{"(textarea (b 'x ) )", "", "<textarea>&lt;b&gt;x&lt;/b&gt;</textarea>", 2},
		{"(B 'a )", "", "<b>a</b>", 2},
		{"(B 'a )", "-b", "", 2},
		{"(B 'a (B 'c ) )", "~b", "ac", 2},
		{"(body 'a ) 'b", "", "ab", 2},
		{"(b/X=1/y=2 )", "", `<b x="1" y="2"></b>`, 2},
		{"(b/X=1/y=2 )", "@x", `<b y="2"></b>`, 2},
		{"(b/X=1/x=2 )", "", `<b x="1"></b>`, 2},
		{`'a\rb\0\f`, "", "a\nb\uFFFD\uFFFD", 2},
		{`(b\s/x=1 )`, "", `<b x="1"></b>`, 2},
		{"(b><i> 'x )", "", "<b><i>&gt;x</i></b><i>&gt;</i>", 2},
		{"(b><i> 'x )", "~i", "<b>&gt;x</b>&gt;", 2},
		{"(1 'x )", "", "&lt;1&gt;x", 2},
		{"(1 'x )", "!", "&lt;1&gt;x<!--1-->", 2},
		// In round 3: what comes back of round 1 has what goes then, and what is left does not come back.
		{"(style '</style><p><button><p>a )", "~button", "<style></style><p></p><p>a</p><p></p>", 3},
		{"!--><p><button><p>a", "! ~button", "<!----><p></p><p>a--&gt;</p><p></p>", 3},
		{"(P (BUTTON (P ) ) )", "~button", "<p></p><p></p><p></p>", 3},
		{"(LI (UL (LI 'a ) ) )", "~ul", "<li></li><li>a</li>", 3},
		{"(x><dd><dl><dt> )", "~dl", "<x><dd></dd><dt>&gt;</dt></x><dd></dd><dt>&gt;</dt>", 3},
	} {
		for _, safely := range []bool{false, true} {
			hold(t, trees(x.l), conf(x.c), safely, x.want, x.n)
		}
	}
}

// P14.2: each round is safely, or none is.
func TestSafely(t *testing.T) {
	for _, x := range []struct {
		l, c     string
		unsafely string
		n        int
		want     string
		wantN    int
	}{
		{"(b/onclick=x 'a (script 'y ) )", "", `<b onclick="x">a<script>y</script></b>`, 1, "<b>a</b>", 1},
		{"(a/href=javascript:x 'a )", "", `<a href="javascript:x">a</a>`, 1, "<a>a</a>", 1},
		{"(script 'x</script>y )", "", "<script>x</script>y", 2, "", 1},
		{"(SCRIPT 'x )", "", "<script>x</script>", 2, "", 2},
		{"(b/ONCLICK=x 'a )", "", `<b onclick="x">a</b>`, 2, "<b>a</b>", 2},
		{"(A/href=javascript:x 'a )", "", `<a href="javascript:x">a</a>`, 2, "<a>a</a>", 2},
		{"(style '</style><script>x</script>y )", "", "<style></style><script>x</script>y", 2, "<style></style>y", 2},
		{`!--><b\sonclick\ex>a`, "!", `<!----><b onclick="x">a--&gt;</b>`, 2, "<!----><b>a--&gt;</b>", 2},
		{`(style '</style><iframe\ssrcdoc\e"<p>">a</iframe>b )`, "", `<style></style><iframe srcdoc="&lt;p&gt;">a</iframe>b`, 2, "<style></style>b", 2},
		{"(style '</style><p><object><button><p>a )", "~button ~object", "<style></style><p></p><p>a</p><p></p>", 3, "<style></style><p></p>", 2},
		{"(style '</style><p><button><p>a<embed> )", "~button", "<style></style><p></p><p>a<embed></p><p></p>", 3, "<style></style><p></p><p>a</p><p></p>", 3},
		{"(xmp '</xmp><meta><base>a )", "", "<xmp></xmp><meta><base>a", 2, "<xmp></xmp>a", 2},
	} {
		hold(t, trees(x.l), conf(x.c), false, x.unsafely, x.n)
		hold(t, trees(x.l), conf(x.c), true, x.want, x.wantN)
	}
}

// P14.2: what is written is refused in round 1 and later: no trees, and the number of rounds.
func TestRefused(t *testing.T) {
	escaped := strings.Repeat("&", 13108)
	behind := func(s string) []api.Row { return []api.Row{el(0, "style"), text(1, "</style>"+s)} }
	buttons := strings.Repeat("<p><button><p></p></button></p>", 100)
	for i, x := range []struct {
		l []api.Row
		c string
		n int
	}{
		{[]api.Row{text(0, strings.Repeat("a", 65537))}, "", 1},
		{[]api.Row{text(0, escaped)}, "", 1},
		{[]api.Row{el(0, "p"), text(1, escaped), el(0, "b")}, "", 1},
		{[]api.Row{el(0, "b", attr("x", escaped))}, "", 1},
		{[]api.Row{note(0, strings.Repeat("a", 65530))}, "!", 1},
		{slices.Repeat(trees("(p (p ) )"), 2048), "", 1},
		{behind(strings.Repeat("<b>", 61)), "", 1},
		{behind(strings.Repeat("<br>", 4096)), "", 1},
		{append(chain(59, "i"), text(59, "</i>"), el(58, "i><b><b><b><b")), "", 1},
		{behind(escaped), "", 2},
		{behind("<p><button><p>" + escaped), "~button", 2},
		{append(chain(1, "P"), text(1, strings.Repeat("\x00", 21844))), "", 2},
		{behind(buttons + strings.Repeat("&", 12824)), "~button", 3},
	} {
		for _, safely := range []bool{false, true} {
			out, n, e := Trees(x.l, conf(x.c), safely)
			if len(out) > 0 || n != x.n || e != api.OK {
				t.Errorf("%d: %s, %d, %d, want none, %d, 0", i, short(write.Rows(out)), n, e, x.n)
			}
			check(t, x.l, conf(x.c), safely)
		}
	}
}

// P14.2: what is just not refused.
func TestNotRefused(t *testing.T) {
	behind := func(s string) []api.Row { return []api.Row{el(0, "style"), text(1, "</style>"+s)} }
	buttons := strings.Repeat("<p><button><p></p></button></p>", 100)
	settled := strings.Repeat("<p></p>", 300)
	hold(t, []api.Row{text(0, strings.Repeat("a", 65536))}, conf(""), true, strings.Repeat("a", 65536), 1)
	hold(t, slices.Repeat(trees("(p )"), 4096), conf(""), true, strings.Repeat("<p></p>", 4096), 1)
	hold(t, slices.Repeat(trees("(p (p ) )"), 1365), conf(""), true, strings.Repeat("<p></p>", 4095), 2)
	hold(t, chain(60, "b"), conf(""), true, strings.Repeat("<b>", 60)+strings.Repeat("</b>", 60), 1)
	hold(t, behind(strings.Repeat("<b>", 60)), conf(""), true, "<style></style>"+strings.Repeat("<b>", 60)+strings.Repeat("</b>", 60), 2)
	hold(t, behind(strings.Repeat("<br>", 4095)), conf(""), true, "<style></style>"+strings.Repeat("<br>", 4095), 2)
	hold(t, behind(strings.Repeat("&", 13104)), conf(""), true, "<style></style>"+strings.Repeat("&amp;", 13104), 2)
	hold(t, behind(buttons+strings.Repeat("&", 12684)), conf("~button"), true, "<style></style>"+settled+strings.Repeat("&amp;", 12684), 3)
	hold(t, append(chain(1, "P"), text(1, strings.Repeat("\x00", 21843))), conf(""), true, "<p>"+strings.Repeat("\uFFFD", 21843)+"</p>", 2)
	// More than would be parsed, of which what is kept is not.
	hold(t, []api.Row{el(0, "b"), text(1, strings.Repeat("a", 70000)), el(0, "p")}, conf("-b"), true, "<p></p>", 1)
}

// script is a filter that answers one list of trees after the other, and keeps what it was given.
type script struct {
	answers [][]api.Row
	errors  []api.Errno
	given   []string
}

func (s *script) filter(l []api.Row) ([]api.Row, api.Errno) {
	s.given = append(s.given, plain(l))
	n := len(s.given) - 1
	return s.answers[n], s.errors[n]
}

// P14.2: the rounds, up to the eighth, when it is stable and when it is not: with filters that go on as clean's never do.
func TestRounds(t *testing.T) {
	unstable, big := trees("(p (p 'x ) )"), []api.Row{text(0, strings.Repeat("a", 65537))}
	back := plain(trees("(p ) (p 'x ) (p )"))
	for last, want := range map[string][]api.Row{"stable": trees("(b 'y )"), "refused": nil, "empty": nil} {
		for n := 1; n <= 9; n++ {
			s := &script{answers: slices.Repeat([][]api.Row{unstable}, n-1), errors: make([]api.Errno, n)}
			s.answers = append(s.answers, map[string][]api.Row{"stable": want, "refused": big, "empty": nil}[last])
			want, wantN := want, n
			if n == 9 {
				want, wantN = nil, 8
			}
			out, is, e := settled(trees("'first"), s.filter)
			if plain(out) != plain(want) || is != wantN || e != api.OK {
				t.Errorf("%s, round %d: %s, %d, %d, want %s, %d", last, n, short(plain(out)), is, e, plain(want), wantN)
			}
			wantGiven := append([]string{plain(trees("'first"))}, slices.Repeat([]string{back}, wantN-1)...)
			if !slices.Equal(s.given, wantGiven) {
				t.Errorf("%s, round %d: filtered %v, want %v", last, n, s.given, wantGiven)
			}
		}
	}
}

// P14.2: an error of the filter ends the rounds.
func TestFilterRefuses(t *testing.T) {
	s := &script{answers: [][]api.Row{nil, nil}, errors: []api.Errno{api.ErrBig, api.OK}}
	if out, n, e := settled(trees("(p )"), s.filter); len(out) > 0 || n != 0 || e != api.ErrBig || len(s.given) != 1 {
		t.Errorf("%s, %d, %d, filtered %d times", plain(out), n, e, len(s.given))
	}
}

// P14.3: what is written of the trees.
func TestText(t *testing.T) {
	for _, x := range []struct{ s, c, unsafely, safe string }{
		{"", "", "", ""},
		{"", "!", "", ""},
		{"", "+b", "", ""},
		{"a<b", "", "a", "a"},
		{"a&lt;b &amp;amp; c>", "", "a&lt;b &amp;amp; c&gt;", "a&lt;b &amp;amp; c&gt;"},
		{"<P ID=x>a<p>b", "", `<p id="x">a</p><p>b</p>`, `<p id="x">a</p><p>b</p>`},
		{"<!doctype html><html><body>a<!--b-->c", "", "ac", "ac"},
		{"<!doctype html><html><body>a<!--b-->c", "!", "a<!--b-->c", "a<!--b-->c"},
		{"<b onclick=x>a<script>y</script>", "", `<b onclick="x">a<script>y</script></b>`, "<b>a</b>"},
		{"<a href=' java&#10;script:x' id=y>a", "", "<a href=\" java\nscript:x\" id=\"y\">a</a>", `<a id="y">a</a>`},
		{"<b>a</b><i>b</i>", "-b", "<i>b</i>", "<i>b</i>"},
		{"<b>a</b><i>b</i>", "~b", "a<i>b</i>", "a<i>b</i>"},
		{"<b>a</b><i>b</i>", "+b", "<b>a</b>", "<b>a</b>"},
		{"<style>a</style><style><b>c</style>", "", "<style>a</style><style><b>c</style>", "<style>a</style><style><b>c</style>"},
		{"<style><script>x</script></style>", "~style", "&lt;script&gt;x&lt;/script&gt;", "&lt;script&gt;x&lt;/script&gt;"},
		{"<p><button><p>a", "~button", "<p></p><p>a</p><p></p>", "<p></p><p>a</p><p></p>"},
		{"<li><ul><li onclick=x>a</ul>b", "~ul", `<li></li><li onclick="x">a</li>b`, "<li></li><li>a</li>b"},
		{"<iframe><p>a</iframe><object>b<b>c</b></object>d", "~object ~iframe", "&lt;p&gt;ab<b>c</b>d", "d"},
		{"a\r\nb\x00\xff", "", "a\nb\uFFFD\uFFFD", "a\nb\uFFFD\uFFFD"},
		{"<x><y z=1>", "@z", "<x><y></y></x>", "<x><y></y></x>"},
		// Trees that do not come back, since they are written longer than they were.
		{strings.Repeat("&", 13107), "", strings.Repeat("&amp;", 13107), strings.Repeat("&amp;", 13107)},
		{strings.Repeat("&", 13108), "", "", ""},
		{strings.Repeat(">", 65536), "", "", ""},
		{"<b>" + strings.Repeat(">", 65533), "-b", "", ""},
		{strings.Repeat("a", 65536), "", strings.Repeat("a", 65536), strings.Repeat("a", 65536)},
		{strings.Repeat("<b>", 60), "", strings.Repeat("<b>", 60) + strings.Repeat("</b>", 60), strings.Repeat("<b>", 60) + strings.Repeat("</b>", 60)},
	} {
		for safely, want := range map[bool]string{false: x.unsafely, true: x.safe} {
			if s, e := Text(x.s, conf(x.c), safely); s != want || e != api.OK {
				t.Errorf("%q by %s, %t: %q, %d, want %q", short(x.s), x.c, safely, short(s), e, short(want))
			}
			checkText(t, x.s, conf(x.c), safely)
		}
	}
}

// checkText holds Text against its three steps, and holds that its own result is not changed.
func checkText(t *testing.T, s string, c api.Conf, safely bool) {
	t.Helper()
	var want string
	l, wantE := build.Parse(s)
	if wantE == api.OK {
		l, _, wantE = wantTrees(l, c, safely)
		want = write.Rows(l)
	}
	out, e := Text(s, c, safely)
	if out != want || e != wantE || e != api.OK && out != "" {
		t.Fatalf("%q by %+v, %t: %q, %d, want %q, %d", short(s), c, safely, short(out), e, short(want), wantE)
	}
	if again, e := Text(out, c, safely); wantE == api.OK && (again != out || e != api.OK) {
		t.Fatalf("%q by %+v, %t: %q, again %q, %d", short(s), c, safely, short(out), short(again), e)
	}
}

// P14.3: the error of the bytes first, then that of the configuration; nothing beside an error.
func TestErrorsOfText(t *testing.T) {
	texts := []struct {
		s    string
		want api.Errno
	}{
		{"", 0}, {"<p>a", 0}, {strings.Repeat("a", 65536), 0}, {strings.Repeat("<b>", 60), 0}, {strings.Repeat("<br>", 4096), 0},
		{strings.Repeat("a", 65537), 2}, {strings.Repeat("<b>", 61), 2}, {strings.Repeat("<b>", 60) + "x", 2}, {strings.Repeat("<br>", 4097), 2}, {strings.Repeat("<script>", 1) + strings.Repeat("x", 65536), 2},
	}
	confs := []struct {
		c    api.Conf
		want api.Errno
	}{
		{config.All(), 0}, {conf("-b -br"), 0}, {api.Conf{Elements: many(65)}, 2}, {conf("-B"), 121}, {conf("-b -b"), 122}, {conf("-b ~b"), 120}, {api.Conf{DataAttrs: true}, 120},
	}
	for i, x := range texts {
		for j, y := range confs {
			want := x.want
			if want == api.OK {
				want = y.want
			}
			for _, safely := range []bool{false, true} {
				if s, e := Text(x.s, y.c, safely); e != want || e != api.OK && s != "" {
					t.Errorf("%d, %d: %q, %d, want %d", i, j, short(s), e, want)
				}
				checkText(t, x.s, y.c, safely)
			}
		}
	}
}

// P14.1, P14.2, P14.4: all small trees by some configurations.
func TestAllSmall(t *testing.T) {
	from := []api.Row{el(0, "p", attr("onx", "1"), attr("id", "2")), el(0, "button"), el(0, "style"), el(0, "P"), el(0, "br"), text(0, "</style><p><button onx=1><p>"), text(0, "\r"), text(0, ""), note(0, "--><b>")}
	confs := []string{"", "!", "~button", "~button ! @id", "-p", "~p ~button", "~style -b", "+p +style ~button !", "~br -button"}
	seen := map[string]int{}
	for i, l := range treesOf(from, 3) {
		seen[check(t, l, conf(confs[i%len(confs)]), i%2 == 0)]++
		seen[check(t, l, conf("! ~button"), true)]++
	}
	nested := []api.Row{el(0, "p"), el(0, "button"), el(0, "li"), el(0, "ul"), text(0, "t")}
	for i, l := range treesOf(nested, 4) {
		seen[check(t, l, conf([]string{"", "~button", "~ul", "~ul ~button", "-ul ~button"}[i%5]), i%2 == 0)]++
	}
	for _, what := range []string{"1 true", "1 false", "2 true", "2 false", "3 true"} {
		if seen[what] == 0 {
			t.Errorf("no trees came to: %s", what)
		}
	}
}

// pieces are of what random texts are made.
func pieces() []string {
	return append(strings.Fields("<p> </p> <button> </button> <li> <ul> </ul> <table> <tr> <td> </td> <style> </style> <!-- --> > < / <b <textarea> </textarea> <br> <br a = onx=y <a href=javascript:x> <script> </script> <dd> <dl> <iframe srcdoc=x> & &lt; <P> </ <!x b c"), "\r", "\x00", "\xff", " ", "\n", `"`)
}

func randomText(r *rand.Rand, n int) string {
	var s string
	all := pieces()
	for range r.IntN(n) {
		s += all[r.IntN(len(all))]
	}
	return s
}

func elements() []string {
	return strings.Fields("p button li ul table td style textarea br script iframe b a dd dl")
}

// randomTrees are valid rows, with names, texts and values that do not come back among them.
func randomTrees(r *rand.Rand, n int) []api.Row {
	var l []api.Row
	deepest := 0
	for range n {
		depth := max(0, deepest-r.IntN(2)*r.IntN(4))
		row := text(depth, randomText(r, 6))
		switch r.IntN(5) {
		case 0:
			row = note(depth, randomText(r, 8))
		case 1, 2, 3:
			row = el(depth, elements()[r.IntN(len(elements()))])
			if r.IntN(8) == 0 {
				row.Name = "x" + randomText(r, 4)
			}
			for i := range r.IntN(3) {
				row.Attrs = append(row.Attrs, attr([]string{"id", "href", "onx", "ONY", "x" + randomText(r, 4)}[(i*2+r.IntN(2))%5], randomText(r, 4)))
			}
			depth++
		}
		l = append(l, row)
		deepest = min(depth, api.MaxDepth-1)
	}
	return l
}

// some are those of a list on which a coin falls.
func some(r *rand.Rand, l []string, n int) []string {
	return slices.DeleteFunc(slices.Clone(l), func(string) bool { return r.IntN(n) > 0 })
}

func randomConf(r *rand.Rand) api.Conf {
	c := api.Conf{Allow: r.IntN(3) == 0, AttrsAllow: r.IntN(2) == 0, Comments: r.IntN(2) == 0, Replace: some(r, elements(), 4)}
	rate := 6
	if c.Allow {
		rate = 2
	}
	c.Elements = slices.DeleteFunc(some(r, elements(), rate), func(name string) bool { return slices.Contains(c.Replace, name) })
	c.Attrs = some(r, strings.Fields("id href onx ony a srcdoc"), 2)
	c.Per = []api.Per{per("p", "x", "xb"), per("b", "c")}
	return c
}

// P14.1, P14.2, P14.4: random trees and configurations, against the model.
func TestRandom(t *testing.T) {
	seen := map[string]int{}
	for seed := range uint64(5000) {
		r := rand.New(rand.NewPCG(seed, 15))
		l := randomTrees(r, r.IntN(20))
		seen[check(t, l, randomConf(r), seed%2 == 0)]++
		seen[check(t, l, config.All(), seed%2 == 0)]++
		check(t, l, config.Plain(), true)
	}
	for _, what := range []string{"1 true", "1 false", "2 true", "3 true"} {
		if seen[what] == 0 {
			t.Errorf("no trees came to: %s", what)
		}
	}
}

// P14.3, P14.4: random documents.
func TestRandomTexts(t *testing.T) {
	for seed := range uint64(10000) {
		r := rand.New(rand.NewPCG(seed, 16))
		s := randomText(r, 40)
		checkText(t, s, randomConf(r), seed%2 == 0)
		checkText(t, s, config.Plain(), true)
		if l, e := build.Parse(s); e == api.OK && !Stable(l) {
			t.Fatalf("%q: does not come back", s)
		}
	}
}

// keeping are configurations that keep all of the names and comments of trees, and little else or much.
func keeping(l []api.Row) []api.Conf {
	var elements, attrs []string
	for _, row := range l {
		if row.Name != "" && !slices.Contains(elements, row.Name) {
			elements = append(elements, row.Name)
		}
		for _, a := range row.Attrs {
			if !slices.Contains(attrs, a.Name) {
				attrs = append(attrs, a.Name)
			}
		}
	}
	others := slices.DeleteFunc(strings.Fields("p b i li ul style br a u x button"), func(name string) bool { return slices.Contains(elements, name) })
	return []api.Conf{
		config.All(), {Comments: true, Elements: others}, {Comments: true, Replace: others},
		{Comments: true, Allow: true, Elements: elements, AttrsAllow: true, Attrs: attrs, Replace: others},
	}
}

// P14.4, W4: trees that are legal and safe, and whose names are kept, are answered as they are in one round.
func TestPreserved(t *testing.T) {
	kinds := map[string]int{}
	see := func(l []api.Row) {
		if !write.Legal(l) || len(write.Rows(l)) > api.MaxText {
			return
		}
		if !Stable(l) {
			t.Fatalf("%s: legal, not stable", plain(l))
		}
		for _, c := range keeping(l) {
			for _, safely := range []bool{false, risk.Safe(l)} {
				if out, n, e := Trees(l, c, safely); plain(out) != plain(l) || n != 1 || e != api.OK {
					t.Fatalf("%s by %+v, %t: %s, %d, %d", plain(l), c, safely, plain(out), n, e)
				}
			}
		}
		kinds[fmt.Sprint(risk.Safe(l), min(len(l), 4))]++
	}
	for _, l := range treesOf([]api.Row{el(0, "p", attr("id", "x")), el(0, "b", attr("onx", "")), el(0, "li"), el(0, "style"), el(0, "ul"), text(0, "t&"), note(0, "c")}, 3) {
		see(l)
	}
	for seed := range uint64(3000) {
		r := rand.New(rand.NewPCG(seed, 17))
		see(randomTrees(r, r.IntN(6)))
		if l, e := build.Parse(randomText(r, 40)); e == api.OK {
			see(l)
		}
	}
	for _, what := range []string{"true 0", "true 1", "true 4", "false 1", "false 4"} {
		if kinds[what] < 1 {
			t.Errorf("no trees were: %s: %v", what, kinds)
		}
	}
	// P14.2 holds all the same for those that are too long to come back, and for comments that are not kept.
	hold(t, []api.Row{text(0, strings.Repeat("&", 20000))}, config.All(), true, "", 1)
	hold(t, trees("(p 'a !x 'b )"), api.Conf{}, true, "<p>ab</p>", 1)
}

// P14.3: the plain configuration.
func TestPlain(t *testing.T) {
	for s, want := range map[string]string{
		"<b onclick=x>a</b><script>y</script>":                                                    "<b>a</b>",
		"<p class=c>a<font>b</font><u title=t style=s>d":                                          `<p class="c">a<u title="t">d</u></p>`,
		"<table><tr><td colspan=2 onx=y>a<tr><td>b</table>c":                                      `<table><tr><td colspan="2">a</td></tr><tr><td>b</td></tr></table>c`,
		"<img src=x onerror=y><a href='java&#10;script:x' id=z>b</a><a href=https:x>c":            `<img src="x"><a id="z">b</a><a href="https:x">c</a>`,
		"<style></style><b>c<style><script>x</style>d</b><textarea><p></textarea><p>e<button><p>": "<b>cd</b><p>e</p>",
		"<ul><li>a<li>b<template><li>c</template><!--d--></ul>e":                                  "<ul><li>a</li><li>b</li></ul>e",
		"<svg><a><p>x": "",
	} {
		for _, safely := range []bool{false, true} {
			if safely || !strings.Contains(s, "java") {
				if out, e := Text(s, config.Plain(), safely); out != want || e != api.OK {
					t.Errorf("%s: %s, %d, want %s", s, out, e, want)
				}
			}
			checkText(t, s, config.Plain(), safely)
		}
	}
}

// R1: long documents and trees, on which a function that takes time by the square would not end in time.
func TestLong(t *testing.T) {
	for _, piece := range []string{"<p>", "</p>", "<b>", "<b>a</b>", "<p><button>", "<!--", "<!", "<!---->", "&amp;", "&", "<style>", "</style>", "<style></style>", "<b x", "<b x=", "</b x", "\r\n", "\xff", "<", "<li>a", "<td>"} {
		s := strings.Repeat(piece, api.MaxText/len(piece))
		checkText(t, s, config.All(), true)
		checkText(t, s, conf("~button -li ~b"), false)
		part := strings.Repeat(piece, 20000/len(piece))
		check(t, []api.Row{el(0, "style"), text(1, part), el(1, "br"), text(2, part)}, conf("~button"), true)
		check(t, []api.Row{el(0, "style"), text(1, "</style>"+part), note(0, part)}, conf("~button !"), true)
	}
	var attrs []api.Attr
	for _, name := range many(10000) {
		attrs = append(attrs, attr(name, ""), attr("on"+name, ""))
	}
	long := strings.Repeat("x", 1<<16)
	check(t, []api.Row{el(0, "b", attrs...)}, config.All(), true)
	check(t, []api.Row{el(0, "b", attrs[:4000]...)}, config.All(), true)
	for _, row := range []api.Row{text(0, long), note(0, long), el(0, long), el(0, "b", attr("x", long))} {
		check(t, slices.Repeat([]api.Row{row}, 20), config.All(), true)
		Stable(slices.Repeat([]api.Row{row}, 200))
	}
}

// The chapter: the package imports api, rows, build, write and clean.
func TestImports(t *testing.T) {
	f, err := parser.ParseFile(token.NewFileSet(), "settle.go", nil, parser.ImportsOnly)
	if err != nil {
		t.Fatal(err)
	}
	may := []string{`"bolting/api"`, `"bolting/rows"`, `"bolting/build"`, `"bolting/write"`, `"bolting/clean"`}
	for _, x := range f.Imports {
		if !slices.Contains(may, x.Path.Value) {
			t.Errorf("imports %s", x.Path.Value)
		}
	}
}
