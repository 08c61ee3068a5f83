package write

import (
	"go/parser"
	gotoken "go/token"
	"math"
	"slices"
	"strconv"
	"strings"
	"testing"

	"bolting/api"
	"bolting/build"
	"bolting/rows"
)

// outcome are valid rows, and what they are written as.
type outcome struct {
	want string
	l    []api.Row
}

func as(want string, l ...api.Row) outcome { return outcome{want, l} }

// checkOutcomes holds Rows against what is written out, and so the model too.
func checkOutcomes(t *testing.T, all ...outcome) {
	t.Helper()
	for _, x := range all {
		if s := Rows(x.l); s != x.want {
			t.Errorf("%s: %q, want %q", brief(x.l), s, x.want)
		}
		checkRows(t, x.l)
	}
}

// P8.1: texts, at the root and in elements with names of each list.
func TestTexts(t *testing.T) {
	const all = "a<b>&\"'\u00a0;-\t\n\u00e4"
	const escaped = "a&lt;b&gt;&amp;\"'&nbsp;;-\t\n\u00e4"
	checkOutcomes(t,
		as(""),
		as("", text(0, "")),
		as("a", text(0, "a")),
		as("ab", text(0, "a"), text(0, ""), text(0, "b")),
		as(escaped, text(0, all)),
		as("&amp;lt;", text(0, "&lt;")),
		as("&nbsp;&nbsp;", text(0, "\xc2\xa0\u00a0")),
		as("\xc2 \xa0\xc2", text(0, "\xc2 \xa0\xc2")),
		as("\x00\r\xff", text(0, "\x00\r\xff")),
		as("<p>a&lt;b</p>", el(0, "p"), text(1, "a<b")),
		as("<script>a<b</script>", el(0, "script"), text(1, "a<b")),
		as("<style>a<b</style>&lt;", el(0, "style"), text(1, "a<b"), text(0, "<")),
		as("&lt;<style>&<</style>", text(0, "<"), el(0, "style"), text(1, "&"), text(1, "<")),
		as("<style></style><script></style><script></script>", el(0, "style"), text(1, "</style><script>"), el(0, "script")),
	)
	for _, name := range rawNames {
		checkOutcomes(t,
			as("<"+name+">"+all+"</"+name+">"+escaped, el(0, name), text(1, all), text(0, all)),
			as("<p><"+name+">"+all+"</"+name+">"+escaped+"</p>", el(0, "p"), el(1, name), text(2, all), text(1, all)),
			// The parent alone counts, not what it stands within.
			as("<"+name+"><b>"+escaped+"</b>"+all+"</"+name+">", el(0, name), el(1, "b"), text(2, all), text(1, all)),
			as("<"+name+"><title>"+escaped+"</title>"+all+"</"+name+">", el(0, name), el(1, "title"), text(2, all), text(1, all)),
			as("<title><"+name+">"+all+"</"+name+">"+escaped+"</title>", el(0, "title"), el(1, name), text(2, all), text(1, all)),
			as("<"+name+"><br>"+all+"<!--<-->"+all+"</"+name+">", el(0, name), el(1, "br"), text(1, all), note(1, "<"), text(1, all)),
		)
	}
	for _, name := range slices.Concat(softNames, goneNames, otherNames, []string{"STYLE", "styl", "styles", "style ", "\xff", "<"}) {
		checkOutcomes(t,
			as("<"+name+">"+escaped+"</"+name+">", el(0, name), text(1, all)),
			as("<"+name+"><style>"+all+"</style>"+escaped+"</"+name+">", el(0, name), el(1, "style"), text(2, all), text(1, all)),
		)
	}
}

// P8.1: elements, with attributes and without, in Void and not, with several roots and deep ones.
func TestElements(t *testing.T) {
	checkOutcomes(t,
		as("<b></b>", el(0, "b")),
		as("<b></b><i></i>", el(0, "b"), el(0, "i")),
		as("<b><i></i></b>", el(0, "b"), el(1, "i")),
		as("<b><i></i><u></u></b>", el(0, "b"), el(1, "i"), el(1, "u")),
		as("<b><i><u></u></i></b><s></s>", el(0, "b"), el(1, "i"), el(2, "u"), el(0, "s")),
		as("a<b>b<i>c</i>d</b>e", text(0, "a"), el(0, "b"), text(1, "b"), el(1, "i"), text(2, "c"), text(1, "d"), text(0, "e")),
		as("<br>", el(0, "br")),
		as("<br>b", el(0, "br"), text(1, "a"), text(0, "b")),
		as("<br><br>", el(0, "br"), el(1, "b"), text(2, "x"), el(1, "br"), el(0, "br")),
		as("<b><br>c</b>d", el(0, "b"), el(1, "br"), el(2, "i"), text(3, "a"), note(2, "b"), text(1, "c"), text(0, "d")),
		as("<b><br></b>", el(0, "b"), el(1, "br"), el(2, "i"), text(3, "a")),
		as("<p><p></p></p>", el(0, "p"), el(1, "p")),
		as("<B></B><html></html>", el(0, "B"), el(0, "html")),
		as("<<&\">&amp;</<&\">", el(0, "<&\""), text(1, "&")),
		as(`<b x="1"></b>`, el(0, "b", attr("x", "1"))),
		as(`<b x="" y=""></b>`, el(0, "b", attr("x", ""), attr("y", ""))),
		as(`<b y="2" x="1">a</b>`, el(0, "b", attr("y", "2"), attr("x", "1")), text(1, "a")),
		as(`<br x="1">`, el(0, "br", attr("x", "1")), text(1, "a")),
		as("<b x=\"&lt;&gt;&amp;&quot;'&nbsp;=/\t\n\u00e4\"></b>", el(0, "b", attr("x", "<>&\"'\u00a0=/\t\n\u00e4"))),
		as(`<style x="&lt;"><</style>`, el(0, "style", attr("x", "<")), text(1, "<")),
		as(`<b x="&amp;lt;" X="" ="=" <="1"></b>`, el(0, "b", attr("x", "&lt;"), attr("X", ""), attr("", "="), attr("<", "1"))),
		as("<b \u00a0&\"=\"\x00\xff\r\"></b>", el(0, "b", attr("\u00a0&\"", "\x00\xff\r"))),
	)
	for _, name := range voidNames {
		checkOutcomes(t,
			as("<"+name+">", el(0, name)),
			as("<"+name+" x=\"1\">b", el(0, name, attr("x", "1")), el(1, "b"), text(2, "a"), note(1, "c"), text(0, "b")),
		)
	}
	for _, name := range slices.Concat(rawNames, softNames, goneNames, otherNames, []string{"BR", "br ", "b\x00r"}) {
		checkOutcomes(t, as("<"+name+"></"+name+">b", el(0, name), text(0, "b")))
	}
}

// P8.1: comments are written as they are.
func TestComments(t *testing.T) {
	for _, data := range []string{"", "a", "-->", "--!>", ">", "->", "-", "--", "<b>&\"\u00a0", "\x00\r\xff"} {
		checkOutcomes(t,
			as("<!--"+data+"-->", note(0, data)),
			as("<b><!--"+data+"--></b><!--"+data+"-->", el(0, "b"), note(1, data), note(0, data)),
			as("<style><!--"+data+"--></style>", el(0, "style"), note(1, data)),
			as("<br>", el(0, "br"), note(1, data)),
		)
	}
}

// P8.1: Inside, for each kind of row and for places where there is none.
func TestInside(t *testing.T) {
	l := of(el(0, "div", attr("x", "<")), text(1, "a<"), el(1, "br"), text(2, "<"), note(1, "c<"), el(1, "style"), text(2, "b<"), el(1, "title"), text(2, "d<"), el(1, "i"), text(0, "e&"), el(0, "u"), el(1, "br"), el(2, "s"), el(3, "b"), text(4, "f"))
	whole := `<div x="&lt;">a&lt;<br><!--c<--><style>b<</style><title>d&lt;</title><i></i></div>e&amp;<u><br></u>`
	for i, want := range map[int]string{
		-1: whole, 0: "a&lt;<br><!--c<--><style>b<</style><title>d&lt;</title><i></i>", 1: "", 2: "", 3: "", 4: "", 5: "b<", 6: "", 7: "d&lt;", 8: "", 9: "", 10: "",
		// What is written within an element in Void is asked of it itself.
		11: "<br>", 12: "", 13: "<b>f</b>", 14: "f", 15: "", 16: "", 17: "", -2: "", -3: "", math.MaxInt: "", math.MinInt: "",
	} {
		if s := Inside(l, i); s != want {
			t.Errorf("%d: %q, want %q", i, s, want)
		}
	}
	checkRows(t, l)
	for _, i := range []int{-2, -1, 0, 1, math.MaxInt, math.MinInt} {
		if s := Inside(nil, i); s != "" {
			t.Errorf("nothing, %d: %q", i, s)
		}
	}
}

// P8.1 to P8.3: all trees of a few rows of each sort.
func TestAllTrees(t *testing.T) {
	from := of(el(0, "p"), el(0, "br", attr("x", "<")), el(0, "style"), el(0, "title"), text(0, "<"), text(0, "a"), note(0, "-"))
	for _, l := range treesOf(from, 4) {
		checkRows(t, l)
	}
	for _, l := range treesOf(of(el(0, "style"), text(0, "<"), el(0, "br")), 6) {
		checkRows(t, l)
	}
	for _, from := range [][]api.Row{
		of(el(0, "p"), el(0, "div"), el(0, "button"), el(0, "li"), el(0, "ul")),
		of(el(0, "table"), el(0, "td"), el(0, "tr"), el(0, "p"), text(0, "a")),
		of(el(0, "dt"), el(0, "dd"), el(0, "dl"), el(0, "p"), el(0, "hr")),
		of(el(0, "option"), el(0, "optgroup"), el(0, "select"), el(0, "template"), el(0, "xmp")),
	} {
		for _, l := range treesOf(from, 4) {
			checkRows(t, l)
		}
	}
}

// R1: rows that are not valid are written in the end, and are not legal.
func TestNotValid(t *testing.T) {
	from := of(el(0, "p"), el(0, "br"), el(0, "style"), text(0, "a"), note(0, "c"), el(0, ""), api.Row{Kind: 3, Name: "b"}, api.Row{Kind: api.KindText, Name: "style"})
	for _, l := range listsOf(from, 3, -1, 3) {
		// The place behind the last row too, where a search for kids might run out.
		for i := -2; i <= len(l); i++ {
			Inside(l, i)
		}
		Rows(l)
		checkLegal(t, l)
	}
	edges := []int{math.MinInt, math.MinInt + 1, -1, 0, 1, math.MaxInt - 1, math.MaxInt}
	for _, a := range edges {
		for _, b := range edges {
			for _, c := range edges {
				l := of(el(a, "p"), el(b, "br"), text(c, "x"), api.Row{Depth: c, Kind: b, Name: "style"})
				for i := -2; i <= len(l); i++ {
					Inside(l, i)
				}
				checkLegal(t, l)
			}
		}
	}
}

// checkPoint holds Legal against the points that are written out.
func checkPoint(t *testing.T, l []api.Row, points ...int) {
	t.Helper()
	if got := broken(l); !slices.Equal(got, points) {
		t.Errorf("%s: the model has the points %v, want %v", brief(l), got, points)
	}
	if got := Legal(l); got != (len(points) == 0) {
		t.Errorf("%s: legal %t, the points that do not hold are %v", brief(l), got, points)
	}
	checkLegal(t, l)
}

// P8.2.1: rows that are not valid, beyond a limit, or that Normal changes.
func TestForm(t *testing.T) {
	checkPoint(t, nil)
	checkPoint(t, []api.Row{})
	checkPoint(t, of(el(0, "b"), el(1, "i"), text(2, "a"), note(2, "a"), text(1, "b"), el(0, "i", attr("x", "1"), attr("y", "1"))))
	for _, l := range [][]api.Row{
		of(text(1, "a")), of(el(1, "b")), of(text(-1, "a")), of(el(0, "b"), text(2, "a")), of(text(0, "a"), text(1, "b")), of(note(0, "a"), el(1, "b")), of(el(0, "b"), el(-1, "b")),
		of(el(0, "")), of(api.Row{Name: "b", Data: "a"}), of(el(0, "b", attr("x", "1"), attr("x", "1"))), of(el(0, "b", attr("x", "1"), attr("y", ""), attr("x", "2"))),
		of(api.Row{Kind: api.KindText, Name: "b", Data: "a"}), of(api.Row{Kind: api.KindText, Data: "a", Attrs: []api.Attr{{Name: "x"}}}), of(api.Row{Kind: api.KindComment, Name: "b"}), of(api.Row{Kind: api.KindComment, Attrs: []api.Attr{{Name: "x"}}}),
		of(api.Row{Kind: 3, Name: "b"}), of(api.Row{Kind: -1, Name: "b"}), of(api.Row{Kind: 3}), of(api.Row{Kind: math.MaxInt, Data: "a"}), of(el(0, "b"), api.Row{Kind: 3, Name: "b", Depth: 1}),
		of(text(0, "")), of(text(0, "a"), text(0, "b")), of(el(0, "b"), text(1, "")), of(el(0, "b"), text(1, "a"), text(1, "b")), of(text(0, "a"), text(0, "")), of(el(0, "title"), text(1, "")), of(el(0, "style"), text(1, "")),
	} {
		checkPoint(t, l, 1)
	}
	checkPoint(t, of(el(0, "b"), text(1, "a"), text(0, "b"), note(0, ""), text(0, "c"), el(0, "br"), text(0, "d")))
	checkPoint(t, chain(60, "b"))
	checkPoint(t, chain(61, "b"), 1)
	checkPoint(t, append(chain(59, "b"), text(59, "a"), note(59, "b"), el(59, "br"), el(58, "b")))
	checkPoint(t, append(chain(60, "b"), text(60, "a")), 1)
	checkPoint(t, append(chain(60, "b"), note(60, "a")), 1)
	for _, row := range of(el(0, "b"), el(0, "br"), note(0, "")) {
		checkPoint(t, slices.Repeat(of(row), 4096))
		checkPoint(t, slices.Repeat(of(row), 4097), 1)
		checkPoint(t, append(slices.Repeat(of(row), 4095), text(0, "a")))
		checkPoint(t, append(slices.Repeat(of(row), 4096), text(0, "a")), 1)
	}
	// Joined they would be within the limit.
	checkPoint(t, slices.Repeat(of(text(0, "a")), 4097), 1)
}

// P8.2.2: names that are not valid or in Gone, and those of attributes.
func TestNames(t *testing.T) {
	modelNames(t)
	for _, name := range slices.Concat(voidNames, rawNames, softNames, otherNames, []string{"z", "a1", "a-", "a\"", "a'", "a<", "a=", "a&", "a;", "a!", "h1", "\u0061\u00a0", "a\u00e4", "a\U0001f600", "a\x01", "a\x7f", "bodyy", "bod", "plaintext", "isindex"}) {
		checkPoint(t, of(el(0, name)))
		checkPoint(t, of(el(0, "span"), el(1, name)))
	}
	for _, name := range append(slices.Clone(goneNames), "A", "aB", "aZ", "Body", "1a", "-a", "\u00e4", "a b", "a\t", "a\n", "a\f", "a/", "a>", "/a", "<a", " a", "!", "?", "`", "{") {
		checkPoint(t, of(el(0, name)), 2)
		checkPoint(t, of(el(0, "b"), el(1, "br"), el(1, name)), 2)
		checkPoint(t, of(el(0, name), text(1, "a")), 2)
	}
	checkPoint(t, of(el(0, "a\r")), 2, 5)
	checkPoint(t, of(el(0, "a\x00")), 2, 5)
	checkPoint(t, of(el(0, "\xff")), 2, 5)
	for _, name := range []string{"a", "1", "-", "&", ";", "!", "?", "`", "\u00e4", "\u00a0", "onclick", "body", "a\x01", "\x7f", "xml:a", "[a]", "a&lt;"} {
		checkPoint(t, of(el(0, "b", attr(name, "1"))))
		checkPoint(t, of(el(0, "br", attr("x", "1"), attr(name, "1"), attr("y", "1"))))
	}
	for _, name := range []string{"", "A", "aB", "a b", " ", "\t", "\n", "\f", "a/", "/", ">", "a>", "\"", "a\"", "'", "a'", "<", "a<", "=", "a=", "=a", "a=b"} {
		checkPoint(t, of(el(0, "b", attr(name, "1"))), 2)
		checkPoint(t, of(el(0, "br", attr("x", "1"), attr(name, "1"), attr("y", "1"))), 2)
	}
	checkPoint(t, of(el(0, "b", attr("\r", ""))), 2, 5)
	checkPoint(t, of(el(0, "b", attr("a\x00", ""))), 2, 5)
}

// P8.2.2: elements that may not stand within those around them.
func TestNested(t *testing.T) {
	for _, x := range []struct {
		names string
		want  bool
	}{
		{"p p", false}, {"p b p", false}, {"p button p", true}, {"p button b p", true}, {"p button p b p", false}, {"p div", false}, {"div p", true}, {"div div", true}, {"p b", true}, {"b p", true}, {"p br", true}, {"p hr", false}, {"p xmp", false}, {"p style", true}, {"p title", true},
		{"li li", false}, {"li ul li", true}, {"li b li", false}, {"li div ul li", true}, {"p li", false}, {"p ul", false}, {"li p", true}, {"ul li p", true}, {"p button li", true}, {"ul p li", false},
		{"dd dt", false}, {"dd dl dt", true}, {"dt b dd", false}, {"p dd", false}, {"td dl dd", true},
		{"option option", false}, {"select option", true}, {"optgroup option", true}, {"option optgroup", false}, {"optgroup optgroup", false},
		{"table tr td", true}, {"td td", false}, {"td th", false}, {"td table td", true}, {"tr tr", false}, {"td tr", false}, {"tbody tbody", false}, {"tr tbody", false}, {"tbody tr td table thead", true}, {"td template td", true}, {"td b i td", false}, {"p table tr td p", false}, {"div table tr td p", true}, {"td button p", true}, {"p td p", true},
		{"a a", true}, {"b b b", true}, {"form form", true}, {"h1 h2", true}, {"p h1", false}, {"button button", true}, {"select select", true},
	} {
		l := chain(60, strings.Fields(x.names)...)[:len(strings.Fields(x.names))]
		points := []int{2}
		if x.want {
			points = nil
		}
		checkPoint(t, l, points...)
		// Deeper, and behind elements that have ended.
		var deeper []api.Row
		for _, name := range strings.Fields("i u") {
			deeper = append(deeper, el(len(deeper), name))
		}
		for _, row := range l {
			row.Depth += 2
			deeper = append(deeper, row)
		}
		checkPoint(t, deeper, points...)
		checkPoint(t, slices.Concat(of(el(0, "p"), el(1, "button"), el(2, "p"), el(0, "li"), el(0, "td"), el(0, "option")), l), points...)
	}
	// Side by side nothing stands within the others.
	checkPoint(t, of(el(0, "p"), el(0, "p"), el(0, "ul"), el(1, "li"), text(2, "a"), el(1, "li"), el(2, "p"), el(1, "li"), el(0, "div"), el(1, "p"), el(1, "p")))
	checkPoint(t, of(el(0, "p"), el(1, "b"), el(0, "div"), el(1, "p"), el(2, "b"), el(2, "div")), 2)
}

// P8.2.3: what elements in Void, in Raw and in Soft have.
func TestKids(t *testing.T) {
	for _, name := range voidNames {
		checkPoint(t, of(el(0, name), text(0, "a"), note(0, ""), el(0, "b")))
		for _, kid := range of(text(1, "a"), note(1, ""), el(1, "b"), el(1, "br")) {
			checkPoint(t, of(el(0, name), kid), 3)
			checkPoint(t, of(el(0, "span"), el(1, name), el(0, name), kid, el(0, "b")), 3)
		}
	}
	for _, name := range append(slices.Clone(rawNames), softNames...) {
		checkPoint(t, of(el(0, name)))
		checkPoint(t, of(el(0, name), text(0, "a"), note(0, ""), el(0, "b")))
		checkPoint(t, of(el(0, name), text(1, "a"), text(0, "</<")))
		checkPoint(t, of(el(0, name), text(1, "<b>&lt;<!---->-->\u00a0 > ")))
		checkPoint(t, of(el(0, name), text(1, "a"), text(1, "b")), 1, 3)
		checkPoint(t, of(el(0, name), text(1, "a"), text(1, "")), 1, 3)
		for _, kid := range of(note(1, "a"), el(1, "b"), el(1, "br")) {
			checkPoint(t, of(el(0, name), kid), 3)
			checkPoint(t, of(el(0, name), text(1, "a"), kid), 3)
			checkPoint(t, of(el(0, name), kid, text(1, "a")), 3)
			checkPoint(t, of(el(0, name), text(1, "a"), kid, text(1, "b")), 3)
			checkPoint(t, of(el(0, "b"), el(1, name), text(2, "a"), el(0, name), kid, el(0, "b")), 3)
		}
	}
	for _, name := range otherNames {
		if name == "p" || name == "option" || name == "optgroup" {
			continue
		}
		checkPoint(t, of(el(0, name), note(1, "a"), text(1, "</<"), el(1, "br"), text(1, "<"), el(1, "style"), el(1, "title")))
	}
}

// P8.2.3: what a text in an element in Raw does not have, and one in others may have.
func TestRawTexts(t *testing.T) {
	for _, x := range []struct {
		data  string
		legal bool
	}{
		{"<", false}, {"a<", false}, {"<<", false}, {"<a<", false}, {"</", false}, {"a</b", false}, {"</a", false}, {"a</", false}, {"</ ", false}, {"<</a", false}, {"</>", false}, {"</style>", false}, {"</STYLE", false}, {"a\n</p>\n", false}, {"\u00e4</\u00e4", false}, {"\u00e4<", false},
		{"a", true}, {"<a", true}, {"< ", true}, {"<>", true}, {"< /a", true}, {"/<a", true}, {"/", true}, {">/", true}, {"&lt;/", true}, {"<b>a", true}, {"<\n/", true}, {"<<a", true}, {"<\u00e4", true}, {"<-/", true}, {"\u00e4<\u00e4/", true},
	} {
		for _, name := range slices.Concat(rawNames, softNames, otherNames) {
			l := of(el(0, name), text(1, x.data))
			if slices.Contains(rawNames, name) && !x.legal {
				checkPoint(t, l, 3)
				checkPoint(t, of(el(0, "i"), el(1, name), text(2, "a"), el(1, name), text(2, x.data), el(0, name)), 3)
				continue
			}
			checkPoint(t, l)
		}
		checkPoint(t, of(text(0, x.data), el(0, "style"), text(0, x.data)))
		checkPoint(t, of(el(0, "style"), note(0, "a"+x.data), el(0, "b", attr("a", x.data))))
	}
	for _, data := range textsOf(strings.Split("</>a", ""), 5) {
		checkRows(t, of(el(0, "style"), text(1, data)))
		checkRows(t, of(el(0, "title"), text(1, data)))
	}
}

// P8.2.4: comments.
func TestLegalComments(t *testing.T) {
	for _, data := range []string{"", "a", "-", "--", "---", "--!", "-!>", "a>", "a->", " >", " ->", "a-> b", "!>", "!--", "--!-", "-- >", "--! >", "-\n->", "<", "<!--", "<!--a--", "a--!", "- ->", "--\u00e4>", "\u00e4>", "-a->"} {
		checkPoint(t, of(note(0, data)))
		checkPoint(t, of(el(0, "b"), note(1, data), text(0, "a"), note(0, data), note(0, data)))
	}
	for _, data := range []string{">", "->", ">a", "->a", "-->", "--!>", "a-->", "a-->b", "a--!>", "a--!>b", "--->", "---!>", "<!--a-->", "-->-->", "> ", ">>", "->-", "\u00e4-->", "\n--!>\n", "-- --!> --"} {
		checkPoint(t, of(note(0, data)), 4)
		checkPoint(t, of(el(0, "b"), note(1, "a"), text(0, "a"), note(0, data), note(0, "b")), 4)
		// Elsewhere all this may stand.
		checkPoint(t, of(el(0, "b", attr("x", data)), text(1, data), el(1, "style"), text(2, data), el(1, "title"), text(2, data)))
	}
	for _, data := range textsOf(strings.Split("->!a", ""), 6) {
		checkRows(t, of(note(0, data)))
	}
}

// P8.2.5: bytes that are not right, 0 and 13, in each place.
func TestBytes(t *testing.T) {
	for _, s := range []string{"\xff", "\x80", "\xc2", "\xe2\x82", "\xf0\x9f\x98", "\xc0\x80", "\xed\xa0\x80", "\xf4\x90\x80\x80", "\xfe"} {
		for _, s := range []string{s, "a" + s, s + "a", "a" + s + "\u00e4"} {
			checkPoint(t, of(el(0, "a"+s)), 5)
			checkPoint(t, of(el(0, "a", attr(s, ""))), 5)
			checkData(t, s, 5)
		}
	}
	for _, s := range []string{"\x00", "\r", "a\x00", "\ra", "\r\n", "a\rb", "\x00\r"} {
		checkPoint(t, of(el(0, "a"+s)), 2, 5)
		checkPoint(t, of(el(0, "a", attr(s, ""))), 2, 5)
		checkData(t, s, 5)
	}
	for _, s := range []string{"a", "\n", "\t", "\f", "\x01", "\x0c", "\x0e", "\x1f", " ", "\x7f", "\u00a0", "\ufffd", "\u00e4\u20ac\U0001f600", "\ufeff", "0", "\\r", "&#13;", "&#0;", "\u2028"} {
		checkData(t, s)
	}
	for i := range 256 {
		c := string([]byte{byte(i)})
		for _, s := range []string{c, "a" + c, c + "a", "\xc3" + c, "\xe2\x82" + c, "-" + c, "--" + c, "<" + c, c + "<"} {
			for _, l := range [][]api.Row{
				of(text(0, s)), of(el(0, "p"), text(1, s)), of(note(0, s)), of(el(0, "style"), text(1, s)), of(el(0, "title"), text(1, s)),
				of(el(0, "a"+s)), of(el(0, s)), of(el(0, "b", attr(s, s))), of(el(0, "br", attr("x", s))),
			} {
				checkRows(t, l)
			}
		}
	}
}

// checkData holds the points against those written out, for a text in each place that may have any.
func checkData(t *testing.T, s string, points ...int) {
	t.Helper()
	for _, l := range [][]api.Row{
		of(text(0, s)), of(el(0, "b"), text(1, s)), of(el(0, "style"), text(1, s)), of(el(0, "title"), text(1, s)), of(note(0, s)), of(el(0, "p"), note(1, s)),
		of(el(0, "b", attr("x", s))), of(el(0, "br", attr("x", "1"), attr("y", s), attr("z", "1"))), of(el(0, "i"), el(1, "b"), el(0, "b", attr("x", s)), el(0, "b")),
	} {
		checkPoint(t, l, points...)
	}
}

// P8.3: legal trees that are written with just as many bytes as are parsed, and with one more.
func TestFull(t *testing.T) {
	fill := func(n int) string { return strings.Repeat("x", n) }
	for _, x := range []struct {
		of   func(n int) []api.Row
		more int
	}{
		{func(n int) []api.Row { return of(text(0, fill(n))) }, 0},
		{func(n int) []api.Row { return of(note(0, fill(n))) }, 7},
		{func(n int) []api.Row { return of(el(0, "style"), text(1, fill(n))) }, 15},
		{func(n int) []api.Row { return of(el(0, "title"), text(1, "<"+fill(n))) }, 19},
		{func(n int) []api.Row { return of(el(0, "b", attr("x", fill(n)))) }, 12},
		{func(n int) []api.Row { return of(el(0, "br", attr(fill(n), "\""))) }, 14},
		{func(n int) []api.Row { return of(el(0, "a"+fill(n/2)), text(0, fill(n%2))) }, 7},
		{func(n int) []api.Row { return append(chain(60, "b"), text(0, fill(n))) }, 420},
		{func(n int) []api.Row { return append(slices.Repeat(of(el(0, "br")), 4095), text(0, fill(n))) }, 16380},
		{func(n int) []api.Row {
			return append(slices.Repeat(of(text(0, "a"), el(0, "i")), 2047), text(0, fill(n)))
		}, 16376},
	} {
		for _, size := range []int{65535, 65536} {
			l := x.of(size - x.more)
			if s := Rows(l); len(s) != size {
				t.Errorf("%s: %d bytes, want %d", brief(l), len(s), size)
			}
			l = rows.Normal(l)
			if back, e := build.Parse(Rows(l)); !Legal(l) || e != api.OK || !rows.Same(back, l) {
				t.Errorf("%s: %t, comes back as %s, %d", brief(l), Legal(l), brief(back), e)
			}
		}
		l := rows.Normal(x.of(65537 - x.more))
		if back, e := build.Parse(Rows(l)); !Legal(l) || e != api.ErrBig || back != nil {
			t.Errorf("%s: %t, comes back as %s, %d", brief(l), Legal(l), brief(back), e)
		}
	}
	escaped := of(text(0, strings.Repeat("<", 16384)))
	if s := Rows(escaped); len(s) != 65536 {
		t.Errorf("%d bytes", len(s))
	}
	checkLegal(t, escaped)
	checkLegal(t, of(text(0, strings.Repeat("<", 16385))))
}

// P8.3: outcomes written out of what is parsed, written again; they come back also where they are not legal.
func TestSomeParsed(t *testing.T) {
	for _, x := range []struct {
		s, want string
		legal   bool
	}{
		{"", "", true},
		{"<p>a<p>b", "<p>a</p><p>b</p>", true},
		{"<style><b></style>", "<style><b></style>", true},
		{"<ul><li>a<li>b</ul>c", "<ul><li>a</li><li>b</li></ul>c", true},
		{"<table><tr><td>a<td>b", "<table><tr><td>a</td><td>b</td></tr></table>", true},
		{"<b><p>a</b>b</p>c", "<b><p>a</p></b>b<p></p>c", true},
		{"<html><body>a</p></html>b<br/>", "a<p></p>b<br>", true},
		{"1 < 2 & &lt;&nbsp;\u00a0", "1 &lt; 2 &amp; &lt;&nbsp;&nbsp;", true},
		{"<B X=1 x=2 Y='\"'/>", "<b x=\"1\" y=\"&quot;\"></b>", true},
		{"a\x00\xff\r\nb", "a\ufffd\ufffd\nb", true},
		{"<!--a--!>b<!x><?y></ z>", "<!--a-->b<!--x--><!--?y--><!-- z-->", true},
		{"<!-->a<!--->b<!---->c<!-- --", "<!---->a<!---->b<!---->c<!-- ---->", true},
		{"<!doctype html>a</>b", "ab", true},
		{"<textarea></textarea x>&lt;", "<textarea></textarea>&lt;", true},
		{"<title>&lt;/title&gt;<b>", "<title>&lt;/title&gt;&lt;b&gt;</title>", true},
		{"<style>a</style", "<style>a</style</style>", false},
		{"<style>a</b><", "<style>a</b><</style>", false},
		{"<script></scrip></script>", "<script></scrip></script>", false},
		{"<b a\"=1 =c=d 'e <f=g>", "<b a\"=\"1\" =c=\"d\" 'e=\"\" <f=\"g\"></b>", false},
		{"<!\x00-><!->a", "<!--\ufffd---><!----->a", true},
		{"<b =>x", "<b ==\"\">x</b>", false},
	} {
		l, e := build.Parse(x.s)
		if s := Rows(l); s != x.want || e != api.OK {
			t.Errorf("%q: %q, %d, want %q", x.s, s, e, x.want)
		}
		if Legal(l) != x.legal {
			t.Errorf("%q: legal %t", x.s, !x.legal)
		}
		checkParsed(t, x.s)
	}
}

// P8.3: all texts of some pieces, and each byte at each place.
func TestAllParsed(t *testing.T) {
	for _, pieces := range [][]string{
		{"<p>", "</p>", "<b>", "</b>", "a", "&amp;", "\r", "\x00", "\xff", "\u00a0", "<br>", "<", "<!--", "-->", "</>"},
		{"<style>", "</style>", "</style", "<title>", "</title>", "<p>", "a", "&lt;", "<", "/", "<!--", "\r\n"},
		{"<ul>", "<li>", "<p>", "</ul>", "</li>", "</p>", "<table>", "<td>", "</table>", "a"},
		{"<b ", "<br ", "x", "=", "\"", "'", "/", ">", " ", "&quot;", "<"},
	} {
		for _, s := range textsOf(pieces, 4) {
			checkParsed(t, s)
		}
	}
	for _, s := range textsOf(strings.Split("<>/p!-& \n", ""), 5) {
		checkParsed(t, s)
	}
	for i := range 256 {
		c := string([]byte{byte(i)})
		for _, s := range []string{c, "a" + c + "b", "\r" + c, "\xe2\x82" + c, "<p" + c + ">a<p>", "<" + c + "p>a", "<p x" + c + "=1>", "<p x=" + c + ">", "<p x='" + c + "'>", "<p " + c + ">", "<p x=1" + c + "y=2>", "</p" + c + ">a", "<!--" + c + "-->", "<!" + c + ">", "<b>" + c + "</b>", "<style>" + c + "</style>", "<style>a</style" + c, "<title>" + c + "<"} {
			checkParsed(t, s)
		}
	}
}

// R1: long and deep lists, on which a function that takes time by the square would not end in time.
func TestLong(t *testing.T) {
	const n = 1 << 18
	if s := Rows(slices.Repeat(of(el(0, "b"), text(1, "<"), note(1, "c"), el(1, "br"), text(2, "x")), n)); s != strings.Repeat("<b>&lt;<!--c--><br></b>", n) {
		t.Errorf("many rows: %d bytes", len(s))
	}
	if s := Inside(chain(n, "b"), 1); s != strings.Repeat("<b>", n-2)+strings.Repeat("</b>", n-2) {
		t.Errorf("deep rows: %d bytes", len(s))
	}
	if s := Rows(chain(n, "br")); s != "<br>" {
		t.Errorf("deep rows in Void: %d bytes", len(s))
	}
	x := el(0, "b")
	for i := range n {
		x.Attrs = append(x.Attrs, attr(strconv.Itoa(i), "<"))
	}
	if s := Rows(of(x)); len(s) != 7+n*8+len(strings.Join(attrNames(x), "")) {
		t.Errorf("many attributes: %d bytes", len(s))
	}
	if !Legal(of(x)) || Legal(of(el(0, "b", append(x.Attrs, attr("0", "<"))...))) {
		t.Error("many attributes")
	}
	long := strings.Repeat("<!--\u00e4-", n)
	for _, l := range [][]api.Row{of(text(0, long)), of(note(0, long)), of(el(0, "style"), text(1, long)), of(el(0, "b", attr("x", long))), of(el(0, "a"+strings.Repeat("<!--\u00e4-", n)))} {
		if !Legal(l) {
			t.Errorf("long text is not legal: %s", brief(l)[:100])
		}
		if s := Rows(l); len(s) < len(long) {
			t.Errorf("long text: %d bytes", len(s))
		}
	}
	if Legal(chain(n, "b")) || Legal(slices.Repeat(of(el(0, "b")), n)) {
		t.Error("many rows are legal")
	}
	deep := chain(60, "b", "i", "span")
	for len(deep) < 4096 {
		deep = append(deep, el(59, "i"))
	}
	if !Legal(deep) {
		t.Error("many deep rows are not legal")
	}
}

func attrNames(row api.Row) []string {
	var out []string
	for _, a := range row.Attrs {
		out = append(out, a.Name)
	}
	return out
}

// The chapter: the package imports api, chars, refs, names, rows and build.
func TestImports(t *testing.T) {
	f, err := parser.ParseFile(gotoken.NewFileSet(), "write.go", nil, parser.ImportsOnly)
	if err != nil {
		t.Fatal(err)
	}
	for _, x := range f.Imports {
		switch x.Path.Value {
		case `"bolting/api"`, `"bolting/build"`, `"bolting/chars"`, `"bolting/names"`, `"bolting/refs"`, `"bolting/rows"`:
		default:
			t.Errorf("imports %s", x.Path.Value)
		}
	}
}
