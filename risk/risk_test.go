package risk

import (
	"go/parser"
	"go/token"
	"math"
	"slices"
	"strings"
	"testing"

	"bolting/api"
)

func attr(name, value string) api.Attr { return api.Attr{Name: name, Value: value} }

func el(depth int, name string, attrs ...api.Attr) api.Row {
	return api.Row{Depth: depth, Kind: api.KindElement, Name: name, Attrs: attrs}
}

func text(depth int, data string) api.Row {
	return api.Row{Depth: depth, Kind: api.KindText, Data: data}
}

func note(depth int, data string) api.Row {
	return api.Row{Depth: depth, Kind: api.KindComment, Data: data}
}

// checkNames holds what is told of an element's and an attribute's name against the chapter.
func checkNames(t *testing.T, element, attr string) {
	t.Helper()
	if is, want := Handler(attr), wantHandler(attr); is != want {
		t.Errorf("Handler(%q): %t, want %t", attr, is, want)
	}
	if is, want := Nav(element, attr), wantNav(element, attr); is != want {
		t.Errorf("Nav(%q, %q): %t, want %t", element, attr, is, want)
	}
	if kind, want := Sink(element, attr), wantSink(element, attr); kind != want {
		t.Errorf("Sink(%q, %q): %d, want %d", element, attr, kind, want)
	}
	if is, want := Element(element), wantElement(element); is != want {
		t.Errorf("Element(%q): %t, want %t", element, is, want)
	}
	for _, value := range []string{"", "https:x", "javascript:x"} {
		checkAttr(t, element, api.Attr{Name: attr, Value: value})
	}
}

func checkAttr(t *testing.T, element string, a api.Attr) {
	t.Helper()
	if is, want := Attr(element, a), wantAttr(element, a); is != want {
		t.Errorf("Attr(%q, %q): %t, want %t", element, a, is, want)
	}
}

// checkSafe holds Safe against the chapter, and against each single node.
func checkSafe(t *testing.T, l []api.Row) {
	t.Helper()
	is, want := Safe(l), wantSafe(l)
	if is != want {
		t.Errorf("Safe(%v): %t, want %t", l, is, want)
	}
	each := true
	for i := range l {
		each = each && Safe(l[i:i+1])
	}
	if is != each {
		t.Errorf("Safe(%v): %t, of each node %t", l, is, each)
	}
}

// P10.1: outcomes written out.
func TestHandler(t *testing.T) {
	for s, want := range map[string]bool{
		"": false, "o": false, "n": false, "on": false, "oN": false, "On": false, "ON": false, "no": false, "no1": false,
		"onx": true, "onX": true, "onclick": true, "on1": true, "on-": true, "on ": true, "on\x00": true, "on\xff": true, "on=": true, "onon": true, "one": true, "once": true, "on\xc3\xa4": true,
		"Onx": false, "oNx": false, "ONX": false, "OnClick": false, "ONCLICK": false,
		"xon": false, "xonx": false, " on": false, " onx": false, "\x00onx": false, "data-onx": false, "click-on": false, "button": false, "o nx": false, "o\x00nx": false, "oonx": false, "onclic\x00": true,
		"nox": false, "o1n": false, "ox": false, "oxx": false, "nnx": false, "\xc3\xb6nx": false, "\xef\xbd\x8fnx": false, "formaction": false, "action": false,
	} {
		if is := Handler(s); is != want || is != wantHandler(s) {
			t.Errorf("Handler(%q): %t, want %t", s, is, want)
		}
	}
}

// P10.1: each byte, and each two, at each place of a handler's name.
func TestEachByteOfHandler(t *testing.T) {
	for c := range 256 {
		b := string([]byte{byte(c)})
		for s, want := range map[string]bool{
			b:                  false,
			b + "n":            false,
			"o" + b:            false,
			"on" + b:           true,
			b + "nx":           c == 'o',
			"o" + b + "x":      c == 'n',
			b + "on":           false,
			b + "onx":          false,
			"onx" + b:          true,
			"o" + b + "nx":     false,
			"on" + b + "x":     true,
			strings.ToUpper(b): false,
		} {
			if is := Handler(s); is != want {
				t.Errorf("Handler(%q): %t", s, is)
			}
		}
		for d := range 256 {
			s := string([]byte{byte(c), byte(d), 'x'})
			if is, want := Handler(s), c == 'o' && d == 'n'; is != want {
				t.Errorf("Handler(%q): %t", s, is)
			}
			if Handler(s[:2]) || !Handler("on"+s[:2]) {
				t.Errorf("Handler of %q", s[:2])
			}
		}
	}
}

// P10.1, P10.2: outcomes written out.
func TestPairs(t *testing.T) {
	for _, x := range []struct {
		element, attr string
		nav           bool
		sink          int
	}{
		{"a", "href", true, api.SinkNone},
		{"area", "href", true, api.SinkNone},
		{"button", "formaction", true, api.SinkNone},
		{"embed", "src", true, api.SinkUrl},
		{"form", "action", true, api.SinkNone},
		{"frame", "src", true, api.SinkNone},
		{"iframe", "src", true, api.SinkNone},
		{"input", "formaction", true, api.SinkNone},
		{"object", "data", true, api.SinkUrl},
		{"script", "src", false, api.SinkUrl},
		{"iframe", "srcdoc", false, api.SinkHtml},
		{"frame", "srcdoc", false, api.SinkNone},
		{"embed", "srcdoc", false, api.SinkNone},
		{"script", "srcdoc", false, api.SinkNone},
		{"div", "srcdoc", false, api.SinkNone},
		{"", "srcdoc", false, api.SinkNone},
		{"script", "href", false, api.SinkNone},
		{"script", "data", false, api.SinkNone},
		{"object", "src", false, api.SinkNone},
		{"embed", "data", false, api.SinkNone},
		{"embed", "href", false, api.SinkNone},
		{"link", "href", false, api.SinkNone},
		{"base", "href", false, api.SinkNone},
		{"img", "src", false, api.SinkNone},
		{"input", "src", false, api.SinkNone},
		{"form", "formaction", false, api.SinkNone},
		{"button", "action", false, api.SinkNone},
		{"A", "href", false, api.SinkNone},
		{"a", "HREF", false, api.SinkNone},
		{"a", "Href", false, api.SinkNone},
		{"Script", "src", false, api.SinkNone},
		{"script", "SRC", false, api.SinkNone},
		{"iframe", "srcDoc", false, api.SinkNone},
		{"href", "a", false, api.SinkNone},
		{"src", "embed", false, api.SinkNone},
		{"a", "", false, api.SinkNone},
		{"", "href", false, api.SinkNone},
		{"", "", false, api.SinkNone},
		{"ah", "ref", false, api.SinkNone},
		{"ar", "eahref", false, api.SinkNone},
		{"a href", "", false, api.SinkNone},
		{"", "a href", false, api.SinkNone},
		{"a", " href", false, api.SinkNone},
		{"a ", "href", false, api.SinkNone},
		{"iframe", "src doc", false, api.SinkNone},
		{"on", "click", false, api.SinkNone},
		{"onclick", "", false, api.SinkNone},
		{"onclick", "href", false, api.SinkNone},
		{"a", "on", false, api.SinkNone},
		{"a", "On1", false, api.SinkNone},
		{"a", "onhref", false, api.SinkScript},
		{"iframe", "onsrcdoc", false, api.SinkScript},
		{"script", "onerror", false, api.SinkScript},
		{"embed", "onload", false, api.SinkScript},
		{"object", "on1", false, api.SinkScript},
		{"div", "onclick", false, api.SinkScript},
		{"", "onx", false, api.SinkScript},
		{"DIV", "on\x00", false, api.SinkScript},
	} {
		if nav, sink := Nav(x.element, x.attr), Sink(x.element, x.attr); nav != x.nav || sink != x.sink {
			t.Errorf("%q, %q: %t, %d, want %t, %d", x.element, x.attr, nav, sink, x.nav, x.sink)
		}
		checkNames(t, x.element, x.attr)
	}
}

// P10.1, P10.2: each element with each attribute, in their order and in the other one; and how many pairs there are.
func TestEachPair(t *testing.T) {
	all := append(append([]string{""}, elements...), attrs...)
	navs, kinds := 0, [api.SinkKinds]int{}
	for _, element := range all {
		for _, attr := range all {
			checkNames(t, element, attr)
			if Nav(element, attr) {
				navs++
			}
			kinds[Sink(element, attr)]++
		}
	}
	// Two of attrs are handlers.
	if n := len(all); navs != 9 || kinds != [api.SinkKinds]int{n*(n-2) - 4, 1, 2 * n, 3} {
		t.Error(navs, kinds)
	}
}

// P10.1, P10.2, P10.3: names that are a byte off those of a pair or of an element that is never safe, in capital letters, doubled.
func TestOneByteOff(t *testing.T) {
	off := func(s string) []string {
		return append(oneByteOff(s), strings.ToUpper(s), s+s, strings.ToUpper(s[:1])+s[1:])
	}
	for _, p := range pairs() {
		for _, element := range off(p.element) {
			checkNames(t, element, p.attr)
		}
		for _, attr := range off(p.attr) {
			checkNames(t, p.element, attr)
		}
	}
	for _, name := range strings.Split(elementWords, ", ") {
		for _, element := range off(name) {
			checkNames(t, element, "id")
		}
	}
	for _, attr := range off("onclick") {
		checkNames(t, "p", attr)
	}
}

// P10.1, P10.2: names that put together, with and without each byte between them, come to the same as a pair.
func TestSeparators(t *testing.T) {
	separators := []string{"", " of ", "\x00\x00", "::", "\", \""}
	for c := range 256 {
		separators = append(separators, string([]byte{byte(c)}))
	}
	for _, p := range pairs() {
		for _, between := range separators {
			both := p.element + between + p.attr
			for i := 0; i <= len(both); i++ {
				checkNames(t, both[:i], both[i:])
				checkNames(t, both[:i], p.attr)
				checkNames(t, p.element, both[i:])
				if behind, found := strings.CutPrefix(both[i:], between); found {
					checkNames(t, both[:i], behind)
				}
			}
			checkNames(t, both, both)
		}
	}
}

// P10.2: a handler comes first, on each element, and also where its name begins with or holds one of a pair.
func TestHandlerOnEach(t *testing.T) {
	for _, element := range append([]string{"", "on", "onclick", "SCRIPT", "\xff"}, elements...) {
		for _, name := range append([]string{"onclick", "onx", "on1", "on ", "on\x00"}, attrs...) {
			if name = "on" + name; Sink(element, name) != api.SinkScript || Nav(element, name) || !Attr(element, attr(name, "")) {
				t.Errorf("%q, %q: %d, %t", element, name, Sink(element, name), Nav(element, name))
			}
		}
	}
}

// P10.3: outcomes written out.
func TestElement(t *testing.T) {
	for name, want := range map[string]bool{
		"base": true, "embed": true, "frame": true, "iframe": true, "link": true, "meta": true, "object": true, "script": true,
		"": false, "a": false, "area": false, "button": false, "form": false, "input": false, "img": false, "div": false, "style": false, "svg": false, "template": false, "frameset": false, "noscript": false, "applet": false, "param": false, "html": false, "onclick": false,
		"BASE": false, "Script": false, "SCRIPT": false, "scripT": false, "Embed": false, "Frame": false, "iFrame": false, "Link": false, "Meta": false, "Object": false,
		"scrip": false, "scripts": false, "cript": false, " script": false, "script ": false, "script\x00": false, "\xffscript": false, "scriptscript": false, "base, embed": false, "bas": false, "emb": false, "ifram": false, "rame": false, "lin": false, "met": false, "objec": false,
	} {
		if is := Element(name); is != want || is != wantElement(name) {
			t.Errorf("Element(%q): %t, want %t", name, is, want)
		}
	}
}

// addresses are some that are run and some that are not.
func addresses() map[string]bool {
	return map[string]bool{
		"javascript:": true, "javascript:x": true, "JavaScript:x": true, "JAVASCRIPT:": true, "jAvAsCrIpT:y": true,
		" javascript:x": true, "\x00\x1f javascript:": true, "\tjavascript:x ": true, "java\nscript:x": true, "java\tscr\nipt\r:": true, "j\r\n\tavascript:": true, "javascript\t:x": true, " Java\rScript:": true, "javascript://https:x": true,
		"": false, " ": false, "javascript": false, "javascript;x": false, "javascripts:x": false, "javascrip:x": false, "xjavascript:": false, ":javascript:": false, "https:x": false, "https:javascript:x": false, "HTTPS://a": false, "data:text/html,<script>": false, "vbscript:x": false, "/javascript:x": false, "x": false, "#x": false,
		"java script:x": false, "java\x00script:x": false, "java\x0cscript:x": false, "javascript :x": false, "javascript%3ax": false, "%6aavascript:x": false, "javascript&#58;x": false, "java\xc5\xbfcript:": false, "javascr\xc4\xb1pt:": false, "\xc2\xa0javascript:": false, "\xffjavascript:": false,
	}
}

// P10.3: each attribute of each element, with addresses that are run and others.
func TestAttr(t *testing.T) {
	for value, runs := range addresses() {
		for _, x := range []string{"a href", "area href", "button formaction", "form action", "frame src", "iframe src", "input formaction"} {
			element, name, _ := strings.Cut(x, " ")
			if is := Attr(element, attr(name, value)); is != runs {
				t.Errorf("%s %q: %t", x, value, is)
			}
		}
		for _, x := range []string{"embed src", "object data", "script src", "iframe srcdoc", "div onclick", "a onx", "iframe onload", " on1"} {
			element, name, _ := strings.Cut(x, " ")
			if !Attr(element, attr(name, value)) {
				t.Errorf("%s %q: false", x, value)
			}
		}
		for _, x := range []string{"img src", "link href", "base href", "div href", "a title", "a src", "a data", "area src", "button action", "form formaction", "input src", "frame href", "frame srcdoc", "object src", "embed href", "script href", "div srcdoc", "A href", "a HREF", "a on", "div On1", "IFRAME srcdoc", "iframe SRCDOC", "Object data", " href", "a ", " "} {
			element, name, _ := strings.Cut(x, " ")
			if Attr(element, attr(name, value)) {
				t.Errorf("%s %q: true", x, value)
			}
		}
		for _, element := range append([]string{""}, elements...) {
			for _, name := range append([]string{""}, attrs...) {
				checkAttr(t, element, attr(name, value))
			}
		}
		// An address in the place of a name is none.
		checkAttr(t, "a", attr(value, "href"))
		checkAttr(t, value, attr("href", "javascript:x"))
	}
}

// P10.3: addresses that are a byte off one that is run.
func TestAddressesOneByteOff(t *testing.T) {
	for _, s := range []string{"javascript:x", " JAVA\nScript:"} {
		for _, off := range oneByteOff(s) {
			checkAttr(t, "a", attr("href", off))
			checkAttr(t, "object", attr("data", off))
			checkAttr(t, "img", attr("src", off))
		}
	}
}

// P10.3: outcomes written out.
func TestSafe(t *testing.T) {
	run := "javascript:x"
	for i, x := range []struct {
		l    []api.Row
		want bool
	}{
		{nil, true},
		{[]api.Row{}, true},
		{[]api.Row{{}}, true},
		{[]api.Row{el(0, "p")}, true},
		{[]api.Row{el(0, "script")}, false},
		{[]api.Row{el(0, "SCRIPT")}, true},
		{[]api.Row{el(0, "SCRIPT", attr("src", "x"))}, true},
		{[]api.Row{el(0, "p", attr("onclick", ""))}, false},
		{[]api.Row{el(0, "p", attr("on", "x"))}, true},
		{[]api.Row{el(0, "", attr("onx", ""))}, false},
		{[]api.Row{el(0, "a", attr("href", run))}, false},
		{[]api.Row{el(0, "a", attr("href", "https:x"))}, true},
		{[]api.Row{el(0, "a", attr("href", "https:x"), attr("href", run))}, false},
		{[]api.Row{el(0, "a", attr("href", run), attr("href", "https:x"))}, false},
		{[]api.Row{el(0, "a", attr("title", run))}, true},
		{[]api.Row{el(0, "p", attr("href", run))}, true},
		{[]api.Row{el(0, "a"), el(1, "p", attr("href", run))}, true},
		{[]api.Row{el(0, "p"), el(1, "a", attr("href", run))}, false},
		{[]api.Row{el(0, "p", attr("x", "<script>"))}, true},
		{[]api.Row{el(0, "p", attr("x", "onclick=y"))}, true},
		{[]api.Row{el(0, "iframe", attr("srcdoc", ""))}, false},
		{[]api.Row{el(0, "p", attr("srcdoc", "<script>"))}, true},
		{[]api.Row{el(0, "img", attr("src", run))}, true},
		{[]api.Row{el(0, "style"), text(1, "<script>x</script>")}, true},
		{[]api.Row{text(0, "<script>x</script>"), note(0, "<b onclick=x>"), text(0, run)}, true},
		{[]api.Row{text(0, ""), note(0, ""), text(0, "script")}, true},
		{[]api.Row{el(0, "p"), text(1, "x"), el(0, "object")}, false},
		{[]api.Row{el(0, "meta"), text(0, "x")}, false},
		{append(slices.Repeat([]api.Row{el(0, "p", attr("id", "x"))}, 4095), el(0, "link")), false},
		{slices.Repeat([]api.Row{el(0, "p", attr("id", "x"))}, 4096), true},
	} {
		if is := Safe(x.l); is != x.want {
			t.Errorf("%d: %t", i, is)
		}
		checkSafe(t, x.l)
	}
}

// notSafe are elements none of which is safe.
func notSafe() []api.Row {
	l := []api.Row{
		el(0, "p", attr("onclick", "")), el(0, "", attr("on1", "x")), el(0, "P", attr("onX", "x")),
		el(0, "p", attr("id", "a"), attr("onx", "b"), attr("title", "c")), el(0, "p", attr("id", "a"), attr("title", "c"), attr("onx", "b")),
		el(0, "a", attr("href", " java\nscript:x")), el(0, "area", attr("href", "JAVASCRIPT:")), el(0, "button", attr("formaction", "javascript:x")), el(0, "form", attr("action", "javascript:x")), el(0, "input", attr("formaction", "javascript:x")),
	}
	for _, name := range strings.Split(elementWords, ", ") {
		l = append(l, el(0, name), el(0, name, attr("id", "x")), el(0, name, attr("onx", "x")))
	}
	return l
}

// safeOnes are safe nodes of each kind.
func safeOnes() []api.Row {
	return []api.Row{
		{}, el(0, ""), el(0, "p"), el(0, "b", attr("id", "x")), el(0, "a", attr("href", "https:x"), attr("title", "javascript:x")), el(0, "SCRIPT"), el(0, "P", attr("On1", "x")), el(0, "img", attr("src", "javascript:x")),
		text(0, ""), text(0, "<script>"), note(0, "<script>"), note(0, "onclick"),
	}
}

// P10.3: texts and comments, and what is of no kind, whose name, data or attributes would not be safe in an element.
func TestOtherKinds(t *testing.T) {
	for _, row := range notSafe() {
		if Safe([]api.Row{row}) {
			t.Errorf("Safe(%v)", row)
		}
		for _, kind := range []int{api.KindText, api.KindComment, 3, api.TokDoctype, 5, -1, 1 << 32, math.MinInt, math.MaxInt} {
			other := row
			other.Kind, other.Data = kind, "<script>x</script>"
			if l := []api.Row{other}; !Safe(l) {
				t.Errorf("not Safe(%v)", l)
			}
			checkSafe(t, []api.Row{other, row})
			checkSafe(t, []api.Row{row, other})
			checkSafe(t, []api.Row{other, el(1, "p"), other})
		}
	}
	for _, row := range safeOnes() {
		if l := []api.Row{row}; !Safe(l) {
			t.Errorf("not Safe(%v)", l)
		}
		// An element's data and depth are not asked for.
		for _, depth := range []int{-1, 1, 7, 60, math.MinInt, math.MaxInt} {
			row.Depth, row.Data = depth, "<script>"
			checkSafe(t, []api.Row{row})
		}
	}
}

// P10.3, P10.4: what is not safe at each place, among others at one depth, deep within them, and in rows that are not valid.
func TestEachPlace(t *testing.T) {
	depths := map[string]func(i int) int{
		"beside":  func(i int) int { return 0 },
		"deep":    func(i int) int { return i },
		"backing": func(i int) int { return -i },
		"jumping": func(i int) int { return i * 7 % 5 },
	}
	for which, depth := range depths {
		l := slices.Repeat(safeOnes(), 3)
		for i := range l {
			l[i].Depth = depth(i)
		}
		if !Safe(l) {
			t.Errorf("%s: not safe", which)
		}
		for i := range l {
			for _, row := range notSafe() {
				row.Depth = l[i].Depth
				with := slices.Clone(l)
				with[i] = row
				if Safe(with) || Safe(with[:i+1]) || Safe(with[i:]) || !Safe(with[:i]) || !Safe(with[i+1:]) {
					t.Errorf("%s: %v at %d", which, row, i)
				}
			}
		}
	}
}

// P10.3: an attribute that is not safe at each place among others.
func TestEachAttributePlace(t *testing.T) {
	var many []api.Attr
	for i := range 20 {
		many = append(many, attr(strings.Repeat("x", i+1), "javascript:x"), attr("href", "https:x"), attr("on", "x"))
	}
	if !Safe([]api.Row{el(0, "a", many...)}) {
		t.Error("not safe")
	}
	for i := range many {
		for _, bad := range []api.Attr{attr("onx", ""), attr("href", "javascript:"), attr("href", "\tJavaScript:x")} {
			with := slices.Clone(many)
			with[i] = bad
			if Safe([]api.Row{el(0, "p"), el(1, "a", with...), text(2, "x")}) {
				t.Errorf("%q at %d", bad, i)
			}
		}
	}
}

// withoutTree are the rows without those of the tree of row i.
func withoutTree(l []api.Row, i int) []api.Row {
	end := i + 1
	for end < len(l) && l[end].Depth > l[i].Depth {
		end++
	}
	return slices.Concat(l[:i], l[end:])
}

// checkTaken holds what P10.4 says of trees of which something is taken away.
func checkTaken(t *testing.T, l []api.Row) {
	t.Helper()
	safe := Safe(l)
	for i, row := range l {
		less := withoutTree(l, i)
		checkSafe(t, less)
		if safe && !Safe(less) {
			t.Errorf("%v: not safe without the tree of %d", l, i)
		}
		for k := range row.Attrs {
			less := slices.Clone(l)
			less[i].Attrs = slices.Concat(row.Attrs[:k], row.Attrs[k+1:])
			checkSafe(t, less)
			if safe && !Safe(less) {
				t.Errorf("%v: not safe without attribute %d of %d", l, k, i)
			}
		}
	}
}

// P10.4: trees are safe just if each node is, and stay so without a node's tree and without an attribute.
func TestProperties(t *testing.T) {
	some := append(safeOnes(), notSafe()[3:6]...)
	some = append(some, el(0, "script"), el(0, "iframe", attr("id", "x"), attr("srcdoc", "x")), api.Row{Kind: api.KindText, Name: "script", Attrs: []api.Attr{attr("onx", "")}}, api.Row{Kind: 7, Name: "script", Attrs: []api.Attr{attr("onx", "")}})
	lists := [][]api.Row{nil}
	for start, n := 0, 0; n < 3; n++ {
		end := len(lists)
		for _, l := range lists[start:end] {
			for i, row := range some {
				row.Depth = (len(l) + i) % (len(l) + 1)
				lists = append(lists, append(slices.Clone(l), row))
			}
		}
		start = end
	}
	for _, l := range lists {
		checkSafe(t, l)
		checkTaken(t, l)
	}
}

// P10.4: an attribute that is a handler is never safe, whatever its element, its value and what stands beside it.
func TestHandlersNeverSafe(t *testing.T) {
	for _, name := range textsOf([]string{"o", "n", "O", "N", "x", "-", " ", "\x00", "\xff"}, 4) {
		for _, element := range []string{"", "p", "a", "script", "iframe", "P", "\xff"} {
			for _, value := range []string{"", "x", "https:x", "javascript:x"} {
				is := Handler(name)
				if is != wantHandler(name) {
					t.Errorf("Handler(%q): %t", name, is)
				}
				if a := attr(name, value); Attr(element, a) != is || Safe([]api.Row{el(0, element, attr("id", "x"), a)}) == (is || element == "script" || element == "iframe") {
					t.Errorf("%q, %q", element, a)
				}
			}
		}
	}
}

// P10.1 to P10.3: long names, values and lists, on which a function that takes time by the square would not end in time.
func TestLong(t *testing.T) {
	const n = 1 << 20
	long := strings.Repeat("on", n)
	if !Handler(long) || Handler("x"+long) || Handler(strings.Repeat("o", n)) {
		t.Error("Handler")
	}
	if Nav("a", "href"+long) || Nav("a"+long, "href") || Sink("script", "src"+long) != api.SinkNone || Sink(long, long) != api.SinkScript || Element("script"+long) {
		t.Error("names")
	}
	spaces := strings.Repeat(" \t", n)
	if !Attr("a", attr("href", spaces+"java"+strings.Repeat("\n", n)+"script:"+long)) || Attr("a", attr("href", spaces+strings.Repeat("javascript", n))) {
		t.Error("Attr")
	}
	wide := el(0, "a", slices.Repeat([]api.Attr{attr("href", "https:x")}, 1<<15)...)
	l := slices.Repeat([]api.Row{el(0, "a", attr("href", "https:x")), text(1, "x")}, 1<<15)
	if !Safe(l) || !Safe([]api.Row{wide}) || Safe(append(l, el(0, "p", attr("onx", "")))) {
		t.Error("Safe")
	}
}

// The chapter: the package imports api and link.
func TestImports(t *testing.T) {
	f, err := parser.ParseFile(token.NewFileSet(), "risk.go", nil, parser.ImportsOnly)
	if err != nil {
		t.Fatal(err)
	}
	for _, x := range f.Imports {
		if p := x.Path.Value; p != `"bolting/api"` && p != `"bolting/link"` {
			t.Errorf("imports %s", p)
		}
	}
}
