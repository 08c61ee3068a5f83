package build

import (
	"go/parser"
	gotoken "go/token"
	"slices"
	"strconv"
	"strings"
	"testing"

	"bolting/api"
)

// The chapters' lists of names.
const (
	voidNames = "area base br col embed hr img input link meta param source track wbr"
	rawNames  = "iframe noembed noframes script style xmp"
	softNames = "textarea title"
	goneNames = "body frameset head html"
	// What closes a paragraph and nothing else.
	blockNames = "address article aside blockquote center details dialog dir div dl fieldset figcaption figure footer form h1 h2 h3 h4 h5 h6 header hgroup hr main menu nav ol p pre section summary table ul xmp"
	cellNames  = "tbody td tfoot th thead tr"
	wallNames  = "button caption table td template th"
	// What closes nothing.
	idleNames = "a b i span button caption select template colgroup object svg math body2 plaintext noscript isindex"
)

// outcome are tokens, and the trees that they become.
type outcome struct {
	l    []api.Token
	want string
}

// checkOutcomes holds Tree against what is written out, and so the model too.
func checkOutcomes(t *testing.T, all ...outcome) {
	t.Helper()
	for _, x := range all {
		if l, e := Tree(x.l); drawn(l) != x.want || e != api.OK {
			t.Errorf("%s: %s, %d, want %s", brief(x.l), drawn(l), e, x.want)
		}
		checkTree(t, x.l)
	}
}

// of are tokens one by one, and the trees that they become.
func of(want string, l ...api.Token) outcome { return outcome{l, want} }

// tagged are tokens written by their names, and the trees that they become.
func tagged(s, want string) outcome { return outcome{tags(s), want} }

// P7.1: texts, joined and not.
func TestTexts(t *testing.T) {
	checkOutcomes(t,
		of(""),
		of("'a'", text("a")),
		of("'ab'", text("a"), text("b")),
		of("'abcd'", text("a"), text("b"), text("c"), text("d")),
		of("'<b>&lt;'", text("<b>"), text("&lt;")),
		of("' \t\n'", text(" "), text("\t\n")),
		of("", text("")),
		of("", text(""), text("")),
		of("'ab'", text(""), text("a"), text(""), text("b"), text("")),
		of("(b) 'a'", start("b"), text(""), end("b"), text("a")),
		of("(b)", start("b"), text(""), text("")),
		of("'a' (b 'b') 'c'", text("a"), start("b"), text("b"), end("b"), text("c")),
		of("(b 'ab') 'cd'", start("b"), text("a"), text("b"), end("b"), text("c"), text("d")),
		of("'ab' (b 'cd')", text("a"), text("b"), start("b"), text("c"), text("d")),
		of("(b 'a') (b 'b')", start("b"), text("a"), end("b"), start("b"), text("b")),
		of("(b (i 'a') 'b') 'c'", start("b"), start("i"), text("a"), end("i"), text("b"), end("b"), text("c")),
		of("(p 'a') (p 'b')", start("p"), text("a"), start("p"), text("b")),
		of("'a' (br) 'b'", text("a"), start("br"), text("b")),
		of("'a' (p) 'b'", text("a"), end("p"), text("b")),
		of("'a' !! 'b'", text("a"), note(""), text("b")),
		of("!c! 'ab' !c!", note("c"), text("a"), text("b"), note("c")),
		of("'a' (b) 'b'", text("a"), start("b"), end("b"), text("b")),
	)
	// What brings nothing stands between two texts as if it were not there.
	for _, x := range nothings() {
		checkOutcomes(t,
			of("'ab'", text("a"), x, text("b")),
			of("(i 'ab')", start("i"), text("a"), x, x, text("b")),
			of("", x),
			of("'a'", x, text("a"), x),
		)
	}
}

// nothings are tokens that bring nothing, where no element b is open.
func nothings() []api.Token {
	out := []api.Token{text(""), doc("html"), doc(""), kind(api.TokDoctype), end("b"), kind(api.TokEnd), end("table"), end("BR"), start(""), end("")}
	for _, k := range []int{-1, 5, 6, 255, 256, 257, 1 << 32, 1<<32 + 1, 1<<63 - 1, -1 << 63} {
		out = append(out, kind(k))
	}
	for _, name := range strings.Fields(goneNames) {
		out = append(out, start(name), start(name, "x", "1"), end(name))
	}
	for _, name := range strings.Fields(voidNames) {
		out = append(out, end(name))
	}
	return out
}

// P7.1: comments, doctypes and kinds that there are not; fields that a node does not have stay empty.
func TestKinds(t *testing.T) {
	checkOutcomes(t,
		of("!a!", note("a")),
		of("!! !!", note(""), note("")),
		of("(b !-->! 'a')", start("b"), note("-->"), text("a")),
		of("(br) !a!", start("br"), note("a")),
		of("'d'", kind(api.TokText)),
		of("(b x=1 'd')", kind(api.TokStart), kind(api.TokText)),
		of("(b x=1 !d!)", kind(api.TokStart), kind(api.TokComment)),
		of("(b x=1) 'd'", kind(api.TokStart), kind(api.TokEnd), kind(api.TokText)),
		of("(b x=1 'd')", kind(api.TokStart), kind(api.TokDoctype), kind(-1), kind(5), kind(api.TokText)),
	)
}

// P7.1: start tags: which bring nothing, which stay open, and their attributes.
func TestStarts(t *testing.T) {
	for _, name := range strings.Fields(goneNames) {
		checkOutcomes(t, tagged("i "+name+" 'a /"+name+" 'b", "(i 'ab')"))
		checkOutcomes(t, tagged(name+"s 'a", "("+name+"s 'a')"))
	}
	for _, name := range strings.Fields(voidNames) {
		checkOutcomes(t, tagged(name+" 'a "+name+" "+name, "("+name+") 'a' ("+name+") ("+name+")"))
		checkOutcomes(t, tagged("i "+name+" 'a /i 'b", "(i ("+name+") 'a') 'b'"))
		checkOutcomes(t, of("("+name+"2 'a')", start(name+"2"), text("a")))
	}
	for _, name := range strings.Fields(rawNames + " " + softNames + " " + idleNames) {
		// Tokens stand in such an element as in any other: that it has text alone is the reader's to see to.
		checkOutcomes(t, tagged("i "+name+" 'a b 'c /b !d /"+name+" 'e", "(i ("+name+" 'a' (b 'c') !d!) 'e')"))
	}
	self := start("b", "x", "1")
	self.Self = true
	checkOutcomes(t,
		of("'a'", text("a"), start("")),
		of("(b) (b)", start("b"), start(""), end("b"), start("b")),
		of("(b x=1 'a')", self, text("a")),
		of("(B (HTML (BR 'a')))", start("B"), start("HTML"), start("BR"), text("a")),
		of("(P (P (LI (LI))))", start("P"), start("P"), start("LI"), start("LI")),
		of("(< (\x00 ( html ('))))", start("<"), start("\x00"), start(" html"), start("'")),
		of("(\xff) 'a'", start("\xff"), end("\xff"), text("a")),
		of("(b x=1)", start("b", "x", "1")),
		of("(b x=1 y=2 z=3)", start("b", "x", "1", "y", "2", "z", "3")),
		of("(b z=3 y=2 x=1)", start("b", "z", "3", "y", "2", "x", "1")),
		of("(b x=1)", start("b", "x", "1", "x", "2")),
		of("(b x=1)", start("b", "x", "1", "x", "1")),
		of("(b x= y=1)", start("b", "x", "", "x", "2", "y", "1", "x", "3", "y", "")),
		of("(b y=1 x=2)", start("b", "y", "1", "x", "2", "y", "3")),
		of("(b x=1 X=2)", start("b", "x", "1", "X", "2")),
		of("(b =1 x=2)", start("b", "", "1", "x", "2", "", "3")),
		of("(b x=1) (b x=2) (br x=3)", start("b", "x", "1"), end("b"), start("b", "x", "2"), end("b"), start("br", "x", "3", "x", "4")),
		of("(p x=1) (p y=2)", start("p", "x", "1"), start("p", "y", "2", "y", "3")),
	)
}

// P7.1: for each name that closes some, what it closes: directly, behind others, and more than one; and the walls.
func TestClosing(t *testing.T) {
	type closing struct{ names, closes, walls, others string }
	for _, x := range []closing{
		{"li", "li", "menu ol template ul", "b div p table td button dl select h1"},
		{"dd dt", "dd dt", "dl template", "b div p table td button ul li select h1"},
		{"option", "option", "select template", "b optgroup table td button ul dl div p"},
		{"optgroup", "option optgroup", "select template", "b table td button ul dl div p"},
		{"tr", "td th tr", "table template", "b tbody caption button ul dl div p select"},
		{"td th", "td th", "table template", "b tbody tr caption button ul dl div p select"},
		{"tbody tfoot thead", "tbody td tfoot th thead tr", "table template", "b caption button ul dl div p select"},
		{blockNames, "p", wallNames, "b div li ul dl dd select option tr tbody h1 script"},
	} {
		for _, name := range strings.Fields(x.names) {
			for _, closed := range strings.Fields(x.closes) {
				// Directly, and with what stands in it.
				checkOpen(t, []string{"i", closed}, name, 1)
				for _, other := range strings.Fields(x.others) {
					checkOpen(t, []string{"i", closed, other}, name, 1)
					checkOpen(t, []string{"i", closed, other, "a", other}, name, 1)
				}
				// The closing goes on behind what was found.
				for _, more := range strings.Fields(x.closes) {
					checkOpen(t, []string{"i", more, closed}, name, 1)
					checkOpen(t, []string{"i", more, "a", closed, "a"}, name, 1)
				}
				// The walls.
				for _, wall := range strings.Fields(x.walls) {
					checkOpen(t, []string{"i", closed, wall}, name, 3)
					checkOpen(t, []string{"i", closed, wall, "a"}, name, 4)
					checkOpen(t, []string{"i", closed, wall, closed, "a"}, name, 3)
					checkOpen(t, []string{"i", wall, closed}, name, 2)
				}
			}
			for _, other := range strings.Fields(x.others) {
				if !slices.Contains(strings.Fields("li dd dt"), name) || other != "p" {
					checkOpen(t, []string{"i", other}, name, 2)
				}
			}
		}
	}
	for _, name := range strings.Fields(idleNames + " P LI") {
		for _, open := range strings.Fields("p li dd dt option optgroup tr td th tbody tfoot thead " + idleNames) {
			checkOpen(t, []string{open}, name, 1)
		}
	}
}

// P7.1: li, dd and dt close p too, behind what else they close, and up to other walls.
func TestClosingParagraphs(t *testing.T) {
	for _, name := range strings.Fields("li dd dt") {
		checkOpen(t, []string{"p"}, name, 0)
		checkOpen(t, []string{"i", "p", "b"}, name, 1)
		checkOpen(t, []string{"i", "p", "b", "p"}, name, 1)
		checkOpen(t, []string{"i", "p", name}, name, 1)
		checkOpen(t, []string{"i", "p", "b", name, "b"}, name, 1)
		checkOpen(t, []string{"i", name, "p"}, name, 1)
		checkOpen(t, []string{"i", name, "p", "b"}, name, 1)
		for _, wall := range strings.Fields(wallNames) {
			checkOpen(t, []string{"i", "p", wall}, name, 3)
			checkOpen(t, []string{"i", "p", wall, "p"}, name, 3)
			checkOpen(t, []string{"i", "p", wall, name}, name, 3)
		}
		// A wall to the one is none to the other.
		checkOpen(t, []string{"p", "ul"}, name, 0)
		checkOpen(t, []string{"p", "dl"}, name, 0)
		checkOpen(t, []string{"p", "ol", "b", "p"}, name, 0)
		checkOpen(t, []string{"i", name, "button"}, name, 1)
		checkOpen(t, []string{"i", name, "table", "p"}, name, 1)
		checkOpen(t, []string{"i", name, "caption"}, name, 1)
	}
	checkOpen(t, []string{"li", "dl", "p"}, "dd", 2)
	checkOpen(t, []string{"li", "dl"}, "dd", 2)
	checkOpen(t, []string{"li", "dl"}, "li", 0)
	checkOpen(t, []string{"dd", "ul"}, "dt", 0)
	checkOpen(t, []string{"dd", "ul"}, "li", 2)
	checkOpen(t, []string{"dd", "ul", "p"}, "li", 2)
}

// checkOpen holds against what is written out how many of some open elements a start tag leaves open: by Nested, and by Tree where these can be open at once.
func checkOpen(t *testing.T, open []string, name string, left int) {
	t.Helper()
	if got := Nested(name, open); got != (left == len(open)) || got != wantNested(name, open) {
		t.Errorf("Nested(%q, %q): %t", name, open, got)
	}
	var l []api.Token
	for _, x := range open {
		l = append(l, start(x))
	}
	before, _ := Tree(l)
	checkTree(t, append(l, start(name)))
	for i, x := range before {
		if x.Depth != i {
			return
		}
	}
	after, e := Tree(append(l, start(name)))
	if k := len(open); e != api.OK || len(after) != k+1 || after[k].Name != name || after[k].Depth != left {
		t.Errorf("%q within %q: %s, %d, want it at depth %d", name, open, drawn(after), e, left)
	}
}

// P7.1: end tags: which bring nothing, and which close what.
func TestEnds(t *testing.T) {
	checkOutcomes(t,
		tagged("b 'a /b 'c", "(b 'a') 'c'"),
		tagged("b i 'a /b 'c", "(b (i 'a')) 'c'"),
		tagged("b i b 'a /b 'c", "(b (i (b 'a') 'c'))"),
		tagged("b b /b /b 'a", "(b (b)) 'a'"),
		tagged("b 'a /i 'c", "(b 'ac')"),
		tagged("/b 'a", "'a'"),
		tagged("b /b /b 'a /b", "(b) 'a'"),
		tagged("b /B 'a", "(b 'a')"),
		of("(b 'a')", start("b"), end(""), text("a")),
		of("(b) 'a'", start("b"), api.Token{Kind: api.TokEnd, Name: "b", Data: "x", Self: true}, text("a")),
		tagged("style b /style 'a", "(style (b)) 'a'"),
		tagged("ul li 'a /ul 'b", "(ul (li 'a')) 'b'"),
		tagged("li ul /li 'a", "(li (ul)) 'a'"),
		tagged("dl dd /dt 'a /dd 'b /dl 'c", "(dl (dd 'a') 'b') 'c'"),
		tagged("h1 /h2 'a", "(h1 'a')"),
		tagged("select option /select 'a", "(select (option)) 'a'"),
	)
	for _, name := range strings.Fields(goneNames + " " + voidNames) {
		checkOutcomes(t, tagged("b i /"+name+" 'a", "(b (i 'a'))"))
	}
	for _, name := range strings.Fields("b div li dd dt option optgroup select ul form h1 script style title section BUTTON") {
		for _, wall := range strings.Fields(wallNames) {
			checkOutcomes(t,
				tagged(name+" "+wall+" /"+name+" 'a", "("+name+" ("+wall+" 'a'))"),
				tagged(name+" "+wall+" i /"+name+" 'a", "("+name+" ("+wall+" (i 'a')))"),
				tagged(wall+" "+name+" i /"+name+" 'a", "("+wall+" ("+name+" (i)) 'a')"),
			)
		}
		for _, other := range strings.Fields("i dl menu ol tr tbody thead tfoot P") {
			checkOutcomes(t, tagged("i "+name+" "+other+" /"+name+" 'a", "(i ("+name+" ("+other+")) 'a')"))
		}
	}
	for _, name := range strings.Fields("b div select ul form h1 script style title section BUTTON") {
		for _, wall := range strings.Fields(wallNames) {
			checkOutcomes(t, tagged("i "+name+" "+wall+" "+name+" /"+name+" 'a", "(i ("+name+" ("+wall+" ("+name+") 'a')))"))
		}
	}
}

// P7.1: end tags of names that are walls themselves: to others, not to their own.
func TestWallsEnd(t *testing.T) {
	for _, name := range strings.Fields("button caption template") {
		for _, wall := range strings.Fields(wallNames) {
			if wall != name {
				checkOutcomes(t, tagged(name+" "+wall+" /"+name+" 'a", "("+name+" ("+wall+" 'a'))"))
			}
		}
		checkOutcomes(t,
			tagged(name+" b /"+name+" 'a", "("+name+" (b)) 'a'"),
			tagged("i "+name+" "+name+" /"+name+" 'a", "(i ("+name+" ("+name+") 'a'))"),
			tagged("i "+name+" ul tr b /"+name+" 'a", "(i ("+name+" (ul (tr (b)))) 'a')"),
			tagged("/"+name+" 'a", "'a'"),
		)
	}
}

// P7.1: end tags of a table and of what stands in it have walls of their own.
func TestTableEnds(t *testing.T) {
	for _, name := range strings.Fields("table " + cellNames) {
		checkOutcomes(t,
			tagged("i "+name+" b /"+name+" 'a", "(i ("+name+" (b)) 'a')"),
			tagged("i "+name+" template /"+name+" 'a", "(i ("+name+" (template 'a')))"),
			tagged("i "+name+" template "+name+" b /"+name+" 'a", "(i ("+name+" (template ("+name+" (b)) 'a')))"),
			tagged("/"+name+" 'a", "'a'"),
		)
		if name != "table" {
			checkOutcomes(t, tagged("i "+name+" table b /"+name+" 'a", "(i ("+name+" (table (b 'a'))))"))
		}
		for _, other := range strings.Fields("button caption ul li p select") {
			checkOutcomes(t, tagged("i "+name+" "+other+" /"+name+" 'a", "(i ("+name+" ("+other+")) 'a')"))
		}
	}
	checkOutcomes(t,
		tagged("table table b /table 'a", "(table (table (b)) 'a')"),
		tagged("table tbody tr td /table 'a", "(table (tbody (tr (td)))) 'a'"),
		tagged("table tbody tr td /tr 'a", "(table (tbody (tr (td)) 'a'))"),
		tagged("table tbody tr th /tbody 'a", "(table (tbody (tr (th))) 'a')"),
		tagged("table tr td /th 'a", "(table (tr (td 'a')))"),
		tagged("tr td table tr /td 'a", "(tr (td (table (tr 'a'))))"),
	)
}

// P7.1: an end tag p makes a p where none is open, or where one is behind a wall.
func TestParagraphEnds(t *testing.T) {
	checkOutcomes(t,
		tagged("/p", "(p)"),
		tagged("/p 'a /p /p", "(p) 'a' (p) (p)"),
		tagged("p /p 'a", "(p) 'a'"),
		tagged("p /p /p 'a", "(p) (p) 'a'"),
		tagged("p b i /p 'a", "(p (b (i))) 'a'"),
		tagged("b /p 'a", "(b (p) 'a')"),
		tagged("p b /p 'a /b 'c", "(p (b)) 'ac'"),
		tagged("p ul /p 'a", "(p) (ul (p) 'a')"),
		tagged("'a br /p !c", "'a' (br) (p) !c!"),
		tagged("/P 'a", "'a'"),
		of("(p) 'a'", api.Token{Kind: api.TokEnd, Name: "p", Data: "x", Attrs: []api.Attr{{Name: "x"}}, Self: true}, text("a")),
	)
	for _, wall := range strings.Fields("button caption td template th") {
		checkOutcomes(t,
			tagged("p "+wall+" /p 'a", "(p ("+wall+" (p) 'a'))"),
			tagged("p "+wall+" b /p 'a", "(p ("+wall+" (b (p) 'a')))"),
			tagged("p "+wall+" p /p 'a", "(p ("+wall+" (p) 'a'))"),
			tagged(wall+" /p 'a", "("+wall+" (p) 'a')"),
		)
	}
	checkOutcomes(t, tagged("p b table /p 'a", "(p (b)) (table (p) 'a')"), tagged("p button table tr /p 'a", "(p (button (table (tr (p) 'a'))))"))
	for _, other := range strings.Fields("select option li dd tr tbody h1 script") {
		if Nested(other, []string{"p"}) {
			checkOutcomes(t, tagged("i p "+other+" /p 'a", "(i (p ("+other+")) 'a')"))
		}
	}
}

// P7.1: all short lists of tokens of each sort.
func TestAllSorts(t *testing.T) {
	for _, l := range listsOf([]api.Token{text("a"), text(""), note("c"), doc("d"), start("b"), end("b"), start("br"), end("br"), start("p", "x", "1"), end("p"), start("html"), start(""), end(""), kind(9)}, 4) {
		checkTree(t, l)
	}
	for _, l := range listsOf(tags("'a b /b p /p div"), 6) {
		checkTree(t, l)
	}
}

// allNames are those that close something or are walls, and some others.
func allNames() []string {
	return strings.Fields("b p div hr li ul ol menu dl dd dt select optgroup option table caption thead tbody tfoot tr td th template button script html")
}

// groups are names that have to do with one another.
func groups() []string {
	return []string{"ul menu li p template button", "dl dd dt p template td", "table caption tbody tr td template", "thead tfoot tr th table p", "select optgroup option template b", "p button caption table div", "li dd ul dl p table"}
}

// P7.1: all short lists of start tags and end tags, with a text in what they leave open.
func TestAllTags(t *testing.T) {
	both := func(l []string) []api.Token {
		var out []api.Token
		for _, name := range l {
			out = append(out, start(name), end(name))
		}
		return out
	}
	for _, l := range listsOf(both(allNames()), 3) {
		checkTree(t, append(l, text("a")))
	}
	for _, group := range groups() {
		for _, l := range listsOf(both(strings.Fields(group)), 4) {
			checkTree(t, append(l, text("a")))
		}
	}
}

// P7.1: what each name leaves open of all chains of four names that can be open at once, and what its end tag does.
func TestAllChains(t *testing.T) {
	for _, group := range groups() {
		all := strings.Fields(group)
		for _, open := range chainsOf(all, 4) {
			l := tags(strings.Join(open, " "))
			for _, name := range all {
				checkTree(t, append(slices.Clip(l), start(name), text("a")))
				checkTree(t, append(slices.Clip(l), end(name), text("a")))
			}
		}
	}
}

// chainsOf are all lists of n of some names that can be open at once.
func chainsOf(from []string, n int) [][]string {
	if n == 0 {
		return [][]string{nil}
	}
	var out [][]string
	for _, open := range chainsOf(from, n-1) {
		for _, name := range from {
			if wantNested(name, open) {
				out = append(out, append(slices.Clone(open), name))
			}
		}
	}
	return out
}

// adding are tokens that bring just one row, of each kind.
func adding() map[string][]api.Token {
	return map[string][]api.Token{
		"text": {text("x")}, "texts that are joined": {text("x"), text(""), text("y"), doc(""), text("z")}, "comment": {note("x")}, "empty comment": {note("")},
		"element": {start("b")}, "element with attributes": {start("b", "x", "1", "x", "2", "y", "3")}, "void element": {start("br")}, "element that closes": {start("li")},
		"p of a start tag": {start("p")}, "p of an end tag": {end("p")}, "script": {start("script")},
	}
}

// checkFits is that tokens become so many rows.
func checkFits(t *testing.T, what string, rows int, parts ...[]api.Token) {
	t.Helper()
	l := slices.Concat(parts...)
	if out, e := Tree(l); len(out) != rows || e != api.OK {
		t.Errorf("%s: %s: %d rows, %d, want %d", what, brief(l), len(out), e, rows)
	}
	checkTree(t, l)
}

// checkBig is that tokens are too many, whatever comes behind them.
func checkBig(t *testing.T, what string, parts ...[]api.Token) {
	t.Helper()
	for _, more := range [][]api.Token{nil, tags("/b /i /i 'a"), tags("i i b !c p"), times(5000, note(""))} {
		l := append(slices.Concat(parts...), more...)
		if out, e := Tree(l); out != nil || e != api.ErrBig {
			t.Errorf("%s: %s: %d rows, %d", what, brief(l), len(out), e)
		}
		checkTree(t, l)
	}
}

// P7.1: just 4096 rows, and one more.
func TestMostRows(t *testing.T) {
	for what, add := range adding() {
		checkFits(t, what, 4095, times(4094, note("c")), add)
		checkFits(t, what, 4096, times(4095, note("c")), add)
		checkFits(t, what, 4096, times(4095, note("c")), add, nothings())
		checkBig(t, what, times(4096, note("c")), add)
		checkBig(t, what, times(4095, note("c")), nothings(), times(1, note("c")), add)
		checkFits(t, what, 4096, tags("i"), times(4094, start("br")), add)
		checkBig(t, what, tags("i"), times(4095, start("br")), add)
		checkFits(t, what, 4096, tags("i"), times(4094, note("")), tags("/i"), add)
		checkBig(t, what, tags("i"), times(4095, note("")), tags("/i"), add)
	}
	checkFits(t, "many", 4096, times(4096, note("c")), nothings())
	checkFits(t, "many", 4096, times(4096, start("br")))
	checkFits(t, "many", 4096, times(4096, start("p")))
	checkFits(t, "many", 4096, times(4096, end("p")))
	checkFits(t, "many", 4096, slices.Repeat(tags("b /b"), 4096))
	checkFits(t, "many", 4096, slices.Repeat(tags("b 'a br /b 'c"), 1024))
	checkBig(t, "many", times(4097, start("p")))
	checkBig(t, "many", times(4097, end("p")))
	checkBig(t, "many", slices.Repeat(tags("b 'a br /b 'c"), 1024), tags("b"))
	// A text that is joined is no row more.
	checkFits(t, "joined", 1, times(5000, text("a")))
	checkFits(t, "joined", 4096, times(4095, note("c")), times(5000, text("a")))
	checkBig(t, "joined", times(4095, note("c")), times(2, text("a")), tags("!c"))
	checkBig(t, "joined", times(4095, note("c")), tags("b /b 'a"))
	checkFits(t, "joined", 4096, times(4094, note("c")), tags("b /b 'a 'b 'c"))
	// One directly behind another that has another parent is.
	checkFits(t, "not joined", 4096, times(4093, note("c")), tags("b 'a /b 'c"))
	checkBig(t, "not joined", times(4094, note("c")), tags("b 'a /b 'c"))
	checkFits(t, "not joined", 4095, slices.Repeat(tags("b 'a /b 'c"), 1365))
	checkBig(t, "not joined", slices.Repeat(tags("b 'a /b 'c"), 1366))
}

// P7.1: a row with a Depth of 59, and one with a Depth of 60.
func TestDeepest(t *testing.T) {
	open := func(n int) []api.Token { return times(n, start("i")) }
	for what, add := range adding() {
		checkFits(t, what, 59, open(58), add)
		checkFits(t, what, 60, open(59), add)
		checkFits(t, what, 61, open(60), tags("/i"), add)
		checkFits(t, what, 61, open(59), tags("!c"), add)
		checkFits(t, what, 61, open(59), tags("br"), add)
		checkFits(t, what, 61, open(59), tags("script /script"), add)
		checkBig(t, what, open(60), add)
		checkBig(t, what, open(60), nothings(), add)
		checkBig(t, what, open(59), tags("script"), add)
		checkBig(t, what, open(61), add)
	}
	checkFits(t, "nothing", 60, open(60), nothings())
	checkFits(t, "ends", 61, open(60), times(60, end("i")), tags("'a"))
	checkFits(t, "joined", 60, open(59), times(90, text("a")))
	// What is closed makes room.
	for _, name := range strings.Fields("li dd dt option optgroup tr td th tbody tfoot thead p") {
		checkFits(t, name, 61, open(59), times(2, start(name)))
		checkFits(t, name, 160, open(59), times(101, start(name)))
		checkFits(t, name, 60, tags(name), open(58), tags("'a"))
		checkFits(t, name, 61, tags(name), open(59), times(1, start(name)))
		checkBig(t, name, open(60), times(1, start(name)))
	}
	checkFits(t, "p", 61, tags("p"), open(59), tags("li"))
	checkFits(t, "p", 62, open(59), tags("p /p /p /p"))
	checkBig(t, "p", tags("p button"), open(58), tags("p"))
	checkBig(t, "p", tags("p button"), open(58), tags("/p"))
}

// P7.2: s of 65536 bytes and one more, also where Ready makes it longer or shorter, and where little comes of it.
func TestLongest(t *testing.T) {
	for _, name := range append(strings.Fields("div style script title html"), "") {
		for _, x := range []struct {
			piece string
			want  int
		}{
			{"x", 65536}, {"\xff", 3 * 65536}, {"\x00", 3 * 65536}, {"\n", 65536}, {"\r", 65536}, {"\r\n", 32768}, {"ab\r\n", 3 * 16384}, {"\xe2\x82\xac!", 65536}, {"&#0!", 65536},
		} {
			s := strings.Repeat(x.piece, 65536/len(x.piece))
			if l, e := In(s, name); e != api.OK || len(l) != 1 || len(l[0].Data) != x.want {
				t.Errorf("In of many %q, %q: %d rows, %d", x.piece, name, len(l), e)
			}
			checkParse(t, s, name)
			checkParse(t, s[1:], name)
			for _, over := range []string{s + "x", "\n" + s, s + s, s + "\xff"} {
				if l, e := In(over, name); l != nil || e != api.ErrBig {
					t.Errorf("In of many %q and more, %q: %d rows, %d", x.piece, name, len(l), e)
				}
				checkParse(t, over, name)
			}
		}
	}
	for _, x := range []struct {
		s    string
		want string
	}{
		{"<a " + strings.Repeat(" ", 65533), ""},
		{"<!doctype" + strings.Repeat(" ", 65526) + ">", ""},
		{strings.Repeat("</>", 21845) + "x", "'x'"},
		{strings.Repeat("</b>", 16384), ""},
		{strings.Repeat("\r\n", 32766) + "</p>", "'" + strings.Repeat("\n", 32766) + "' (p)"},
		{strings.Repeat("x</>", 16384), "'" + strings.Repeat("x", 16384) + "'"},
		{"<b " + strings.Repeat("x=y ", 16383) + ">", "(b x=y)"},
	} {
		if l, e := Parse(x.s); drawn(l) != x.want || e != api.OK {
			t.Errorf("Parse(%.20q): %.100s, %d", x.s, drawn(l), e)
		}
		for _, over := range []string{x.s + " ", "\r" + x.s, "\r\n\r\n" + x.s[1:]} {
			checkParse(t, over, "")
			if l, e := Parse(over); l != nil && len(over) > 65536 || (e == api.ErrBig) != (len(over) > 65536) {
				t.Errorf("Parse(%.20q), %d bytes: %d rows, %d", over, len(over), len(l), e)
			}
		}
	}
}

// P7.2: too many rows or too deep ones of bytes.
func TestBigParse(t *testing.T) {
	for _, x := range []struct {
		s    string
		want api.Errno
	}{
		{strings.Repeat("<b>", 60), 0}, {strings.Repeat("<b>", 61), 2}, {strings.Repeat("<b>", 60) + "x", 2}, {strings.Repeat("<b>", 60) + "</p>", 2}, {strings.Repeat("<b>", 60) + "</b>x", 0},
		{strings.Repeat("<b>", 59) + "<style>x</style>", 2}, {strings.Repeat("<b>", 59) + "<style></style><br>x<!--c--></p>", 0}, {strings.Repeat("<li>", 61), 0},
		{strings.Repeat("<br>", 4096), 0}, {strings.Repeat("<br>", 4097), 2}, {strings.Repeat("<b></b>", 4097), 2}, {strings.Repeat("</p>", 4096), 0}, {strings.Repeat("</p>", 4097), 2},
		{strings.Repeat("<br>", 4096) + "x", 2}, {strings.Repeat("<br>", 4096) + "</b><!doctype a></><html>", 0}, {strings.Repeat("a<?>", 2048), 0}, {strings.Repeat("a<?>", 2048) + "a", 2},
	} {
		for _, name := range []string{"", "div", "ul"} {
			if l, e := In(x.s, name); e != x.want || e != 0 && l != nil {
				t.Errorf("In(%.20q, %q): %d rows, %d, want %d", x.s, name, len(l), e, x.want)
			}
			checkParse(t, x.s, name)
		}
		if l, e := Parse(x.s); e != x.want || e != 0 && l != nil {
			t.Errorf("Parse(%.20q): %d rows, %d, want %d", x.s, len(l), e, x.want)
		}
	}
}

// P7.2: outcomes written out.
func TestSomeParsed(t *testing.T) {
	for _, x := range []struct{ s, want string }{
		{"", ""},
		{"<p>a<p>b", "(p 'a') (p 'b')"},
		{"<ul><li>a<li>b</ul>c", "(ul (li 'a') (li 'b')) 'c'"},
		{"</p>", "(p)"},
		{"a</b>c", "'ac'"},
		{"a</>b", "'ab'"},
		{"a<!doctype html>b", "'ab'"},
		{"a<!--b-->c<?d>", "'a' !b! 'c' !?d!"},
		{"<html><head><title>a<b></title></head><body>c", "(title 'a<b>') 'c'"},
		{"<style><p></style><p>&lt;<P>", "(style '<p>') (p '<') (p)"},
		{"<B X=1 x=2 Y='3'/>a", "(b x=1 y=3 'a')"},
		{"<br/>a<br></br>b", "(br) 'a' (br) 'b'"},
		{"<table><tr><td>a<td>b<tr><td>c</table>d", "(table (tr (td 'a') (td 'b')) (tr (td 'c'))) 'd'"},
		{"<b><p>a</b>b</p>c", "(b (p 'a')) 'b' (p) 'c'"},
		{"<a", ""},
		{"<b>a<i", "(b 'a')"},
		{"a\r\nb\rc\nd", "'a\nb\nc\nd'"},
		{"a\x00b\xffc", "'a\xef\xbf\xbdb\xef\xbf\xbdc'"},
		{"<b\x00>\xc3</b\xff>a</b\xef\xbf\xbd>c", "(b\xef\xbf\xbd '\xef\xbf\xbd') 'ac'"},
		{"<b x\x00=\xff\r\n>", "(b x\xef\xbf\xbd=\xef\xbf\xbd)"},
		{"<b x='\r\n\r'>", "(b x=\n\n)"},
		{"<b x\xff=1 x\xfe=2>", "(b x\xef\xbf\xbd=1)"},
		{"<!--\x00\r-->", "!\xef\xbf\xbd\n!"},
		{"<p\r\n>a<br\r>b", "(p 'a' (br) 'b')"},
		{"<style>\r&amp;\x00</style\r>", "(style '\n&amp;\xef\xbf\xbd')"},
		{"&#13;&#0;&#x1f600;", "'\n\xef\xbf\xbd\xf0\x9f\x98\x80'"},
	} {
		if l, e := Parse(x.s); drawn(l) != x.want || e != api.OK {
			t.Errorf("Parse(%q): %s, %d, want %s", x.s, drawn(l), e, x.want)
		}
		checkParse(t, x.s, "")
	}
}

// P7.2: In, for names in Raw, in Soft and in neither.
func TestIn(t *testing.T) {
	const s = "a<b>&lt;\r\n<p>\x00<p>"
	for _, name := range strings.Fields(rawNames) {
		checkIn(t, s, name, "'a<b>&lt;\n<p>\xef\xbf\xbd<p>'")
		checkIn(t, "a<b></"+name+">c<b>", name, "'a<b>c' (b)")
		checkIn(t, "a<b></"+strings.ToUpper(name)+" x>&lt;", name, "'a<b><'")
		checkIn(t, "</p></"+name+"\r>", name, "'</p>'")
	}
	for _, name := range strings.Fields(softNames) {
		checkIn(t, s, name, "'a<b><\n<p>\xef\xbf\xbd<p>'")
		checkIn(t, "a<b></"+name+">c<b>", name, "'a<b>c' (b)")
		checkIn(t, "<p>&lt;/"+name+"></"+name+"/>", name, "'<p></"+name+">'")
	}
	for _, name := range append(strings.Fields(goneNames+" "+blockNames+" b template STYLE Title styles plaintext < >"), "", "style ", "\xff") {
		if slices.Contains(strings.Fields(rawNames), name) {
			continue
		}
		checkIn(t, s, name, "'a' (b '<\n' (p '\xef\xbf\xbd') (p))")
		// No element of the name is open: its end tag closes nothing.
		if name != "" && name != "p" && 'a' <= name[0] && name[0] <= 'z' {
			checkIn(t, "a</"+name+">c", name, "'ac'")
		}
	}
	checkIn(t, "a</p>c", "p", "'a' (p) 'c'")
	checkIn(t, "<li>a<li>b", "li", "(li 'a') (li 'b')")
	checkIn(t, "a<td>b", "p", "'a' (td 'b')")
}

func checkIn(t *testing.T, s, name, want string) {
	t.Helper()
	if l, e := In(s, name); drawn(l) != want || e != api.OK {
		t.Errorf("In(%q, %q): %s, %d, want %s", s, name, drawn(l), e, want)
	}
	checkParse(t, s, name)
}

// P7.2, P7.4: all texts of some pieces, in elements of some names.
func TestAllParsed(t *testing.T) {
	for _, pieces := range [][]string{
		{"<p>", "</p>", "<b>", "</b>", "a", "&amp;", "\r", "\n", "\x00", "\xff", "<br>", "<", "<!--", "-->", "</>"},
		{"<style>", "</style>", "<title>", "</title>", "<p>", "a", "&lt;", "<!--", "\r\n"},
		{"<ul>", "<li>", "<p>", "</ul>", "</li>", "</p>", "<table>", "<td>", "</table>", "a"},
	} {
		for _, l := range listsOf(pieces, 3) {
			for _, name := range []string{"", "p", "style", "title", "xmp"} {
				checkParse(t, strings.Join(l, ""), name)
			}
		}
	}
	for _, l := range listsOf(strings.Split("<>/p!-& \n", ""), 5) {
		checkParse(t, strings.Join(l, ""), "")
	}
}

// P7.2: each byte, and bytes that are not right, at each place.
func TestEachByte(t *testing.T) {
	for i := range 256 {
		c := string([]byte{byte(i)})
		for _, s := range []string{c, "a" + c + "b", "\r" + c, "\xe2\x82" + c, "<p" + c + ">a<p>", "<" + c + "p>a", "<p x" + c + "=1>", "<p x=" + c + ">", "<p x='" + c + "'>", "</p" + c + ">a", "<!--" + c + "-->", "<b>" + c + "</b>"} {
			for _, name := range []string{"", "style", "textarea"} {
				checkParse(t, s, name)
			}
		}
	}
}

// P7.3: outcomes written out.
func TestNested(t *testing.T) {
	for _, x := range []struct {
		name, around string
		want         bool
	}{
		{"p", "", true}, {"li", "", true}, {"dd", "", true}, {"td", "", true}, {"b", "", true},
		{"p", "p", false}, {"p", "b p", false}, {"p", "p b", false}, {"p", "p b i", false}, {"p", "b i", true},
		{"p", "p button", true}, {"p", "p button b", true}, {"p", "p button p", false}, {"p", "p caption", true}, {"p", "p table", true}, {"p", "p td", true}, {"p", "p template", true}, {"p", "p th", true},
		{"p", "p tr", false}, {"p", "p ul", false}, {"p", "p select", false}, {"div", "p", false}, {"div", "div", true}, {"hr", "p", false}, {"xmp", "p b", false}, {"table", "p", false}, {"br", "p", true}, {"b", "p", true}, {"b", "b", true}, {"span", "p", true},
		{"li", "ul", true}, {"li", "ul li", false}, {"li", "li", false}, {"li", "li b", false}, {"li", "li ul", true}, {"li", "li ol", true}, {"li", "li menu", true}, {"li", "li template", true}, {"li", "li ul b", true}, {"li", "li dl", false}, {"li", "li table td", false}, {"li", "dd", true},
		{"li", "p", false}, {"li", "p b", false}, {"li", "p ul", false}, {"li", "ul p", false}, {"li", "p button", true}, {"li", "li ul p", false}, {"li", "li ul p button", true}, {"li", "li button", false}, {"li", "li ul button", true}, {"li", "p li button", false},
		{"dd", "dd", false}, {"dd", "dt", false}, {"dt", "dd b", false}, {"dt", "dt dl", true}, {"dd", "dt template", true}, {"dd", "dd ul", false}, {"dd", "p", false}, {"dt", "p dl", false}, {"dt", "dl p", false}, {"dd", "dl p td", true}, {"dt", "dd dl p th", true}, {"dd", "li", true},
		{"option", "select option", false}, {"option", "option select", true}, {"option", "option template", true}, {"option", "option table td", false}, {"option", "select optgroup", true}, {"option", "select optgroup option", false}, {"option", "p", true},
		{"optgroup", "select optgroup", false}, {"optgroup", "select option", false}, {"optgroup", "optgroup select", true}, {"optgroup", "option template b", true},
		{"td", "table tr", true}, {"td", "table tr td", false}, {"td", "table tr th", false}, {"th", "td b", false}, {"th", "td table", true}, {"th", "th template tr", true}, {"td", "p", true}, {"td", "td caption", false}, {"td", "tr tbody", true},
		{"tr", "tr", false}, {"tr", "td", false}, {"tr", "th b", false}, {"tr", "table tr td table", true}, {"tr", "tr template", true}, {"tr", "table tbody", true}, {"tr", "tr tbody", false},
		{"tbody", "tbody", false}, {"tbody", "thead", false}, {"tfoot", "tr", false}, {"thead", "td", false}, {"thead", "table", true}, {"tbody", "tbody tr td table", true}, {"tfoot", "th template b", true}, {"tbody", "caption", true},
		{"html", "p", true}, {"body", "p li", true}, {"P", "p", true}, {"p", "P", true}, {"li", "LI", true}, {"nope", "p li dd td", true}, {"p", "nope", true}, {"caption", "p", true}, {"button", "p button", true}, {"template", "p", true}, {"select", "select", true},
	} {
		around := strings.Fields(x.around)
		if Nested(x.name, around) != x.want || wantNested(x.name, around) != x.want {
			t.Errorf("Nested(%q, %q): %t", x.name, around, !x.want)
		}
	}
	for _, name := range append(allNames(), "", "\x00") {
		if !Nested(name, nil) || !Nested(name, []string{}) || !Nested(name, []string{""}) || !Nested(name, []string{"", "nope", "\xff"}) {
			t.Errorf("Nested(%q) within nothing", name)
		}
		if !Nested("", []string{name}) || !Nested("nope", []string{name, name}) {
			t.Errorf("Nested of nothing within %q", name)
		}
	}
}

// P7.3: each name within all short lists of names.
func TestAllNested(t *testing.T) {
	check := func(name string, around []string) {
		if got := Nested(name, around); got != wantNested(name, around) {
			t.Errorf("Nested(%q, %q): %t", name, around, got)
		}
	}
	for _, around := range listsOf(append(allNames(), ""), 2) {
		for _, name := range strings.Fields(voidNames + " " + rawNames + " " + softNames + " " + goneNames + " " + blockNames + " " + cellNames + " " + idleNames + " li dd dt option optgroup") {
			check(name, around)
		}
	}
	for _, group := range groups() {
		for _, around := range listsOf(strings.Fields(group), 4) {
			for _, name := range append(strings.Fields(group), "dd", "b") {
				check(name, around)
			}
		}
	}
}

// R1: long lists, on which a function that takes time by the square would not end in time.
func TestLong(t *testing.T) {
	const n = 1 << 18
	data := strings.Repeat("a", 64)
	if l, e := Tree(times(n, text(data))); e != api.OK || len(l) != 1 || len(l[0].Data) != 64*n {
		t.Errorf("many texts: %d rows, %d", len(l), e)
	}
	if l, e := Tree(slices.Repeat(tags("b 'a /b /c /p p /p"), 1024)); e != api.OK || len(l) != 4096 {
		t.Errorf("many tags: %d rows, %d", len(l), e)
	}
	if l, e := Tree(append(times(59, start("b")), times(n, end("i"))...)); e != api.OK || len(l) != 59 {
		t.Errorf("many end tags: %d rows, %d", len(l), e)
	}
	if l, e := Tree(times(n, start("b"))); e != api.ErrBig || l != nil {
		t.Errorf("many start tags: %d rows, %d", len(l), e)
	}
	x := start("b")
	for i := range n {
		x.Attrs = append(x.Attrs, api.Attr{Name: strconv.Itoa(i), Value: "1"}, api.Attr{Name: "x"})
	}
	if l, e := Tree([]api.Token{x}); e != api.OK || len(l) != 1 || len(l[0].Attrs) != n+1 {
		t.Errorf("many attributes: %d rows, %d", len(l), e)
	}
	for _, list := range []string{"p", "b", "li", "p b", "li p", "li ul", "p button", "dd dt", "td"} {
		for _, name := range strings.Fields("p li dt td b") {
			around := slices.Repeat(strings.Fields(list), n)
			if got := Nested(name, around); got != Nested(name, around[len(around)-4:]) {
				t.Errorf("Nested(%q) within many %s: %t", name, list, got)
			}
		}
	}
}

// The chapter: the package imports api, chars, names, rows and token.
func TestImports(t *testing.T) {
	f, err := parser.ParseFile(gotoken.NewFileSet(), "build.go", nil, parser.ImportsOnly)
	if err != nil {
		t.Fatal(err)
	}
	for _, x := range f.Imports {
		switch x.Path.Value {
		case `"bolting/api"`, `"bolting/chars"`, `"bolting/names"`, `"bolting/rows"`, `"bolting/token"`:
		default:
			t.Errorf("imports %s", x.Path.Value)
		}
	}
}
