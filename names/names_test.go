package names

import (
	"go/parser"
	"go/token"
	"slices"
	"strings"
	"testing"
)

// The chapter's lists, as it writes them.
const (
	voidList  = "area base br col embed hr img input link meta param source track wbr"
	rawList   = "iframe noembed noframes script style xmp"
	softList  = "textarea title"
	goneList  = "body frameset head html"
	blockList = "address article aside blockquote center dd details dialog dir div dl dt fieldset figcaption figure footer form h1 h2 h3 h4 h5 h6 header hgroup hr li main menu nav ol p pre section summary table ul xmp"
	otherList = "li dd dt option optgroup tr td th tbody tfoot thead select template button caption a b i u s q em span svg math object label h7 h0 h image isindex keygen command frame noscript plaintext listing"
	spaces    = "\x09\x0a\x0c\x0d\x20"
	capitals  = "ABCDEFGHIJKLMNOPQRSTUVWXYZ"
	smalls    = "abcdefghijklmnopqrstuvwxyz"
)

type list struct {
	what  string
	is    func(string) bool
	names []string
}

// lists are the functions that ask whether a name is in a list, each with the list.
func lists() []list {
	return []list{
		{"Void", Void, strings.Fields(voidList)},
		{"Raw", Raw, strings.Fields(rawList)},
		{"Soft", Soft, strings.Fields(softList)},
		{"Block", Block, strings.Fields(blockList)},
		{"Gone", Gone, strings.Fields(goneList)},
	}
}

// wantClosing is the chapter's P5.2, by a table of the names that it lists one by one.
func wantClosing(name string) (closes, walls string) {
	table := map[string][2]string{
		"li":       {"li", "menu ol template ul"},
		"dd":       {"dd dt", "dl template"},
		"dt":       {"dd dt", "dl template"},
		"option":   {"option", "select template"},
		"optgroup": {"optgroup option", "select template"},
		"tr":       {"td th tr", "table template"},
		"td":       {"td th", "table template"},
		"th":       {"td th", "table template"},
		"tbody":    {"tbody td tfoot th thead tr", "table template"},
		"tfoot":    {"tbody td tfoot th thead tr", "table template"},
		"thead":    {"tbody td tfoot th thead tr", "table template"},
	}
	if x, ok := table[name]; ok {
		return x[0], x[1]
	}
	if slices.Contains(strings.Fields(blockList), name) {
		closes = "p"
	}
	return closes, "button caption table td template th"
}

// known are all names that the chapter lists anywhere, and some that it does not.
func known() []string {
	all := strings.Fields(strings.Join([]string{voidList, rawList, softList, goneList, blockList, otherList}, " "))
	slices.Sort(all)
	return slices.Compact(all)
}

// oneByteOff are all texts that a byte more, fewer or changed makes of s: capital letters for small ones among them.
func oneByteOff(s string) []string {
	var all []string
	for i := 0; i <= len(s); i++ {
		if i < len(s) {
			all = append(all, s[:i]+s[i+1:])
		}
		for c := range 256 {
			b := string([]byte{byte(c)})
			all = append(all, s[:i]+b+s[i:])
			if i < len(s) {
				all = append(all, s[:i]+b+s[i+1:])
			}
		}
	}
	return all
}

// textsOf are all texts of at most n of the pieces of from.
func textsOf(from []string, n int) []string {
	all := []string{""}
	for start := 0; n > 0; n-- {
		end := len(all)
		for _, s := range all[start:end] {
			for _, piece := range from {
				all = append(all, s+piece)
			}
		}
		start = end
	}
	return all
}

// asked are the texts for which the lists are asked: the known names, what is next to them, pairs of them and all short texts.
func asked() []string {
	all := textsOf(strings.Split(smalls+"0123456789", ""), 3)
	for _, name := range known() {
		all = append(all, name, strings.ToUpper(name), strings.ToUpper(name[:1])+name[1:], name+"\x00", " "+name+" ", name+","+name)
		all = append(all, oneByteOff(name)...)
		for _, other := range known() {
			all = append(all, name+other, name+" "+other)
		}
	}
	slices.Sort(all)
	return slices.Compact(all)
}

// P5.1: outcomes written out: names that are in one list, in two and in none.
func TestSomeNames(t *testing.T) {
	for _, x := range []struct {
		name                         string
		void, raw, soft, block, gone bool
	}{
		{name: "br", void: true},
		{name: "wbr", void: true},
		{name: "area", void: true},
		{name: "hr", void: true, block: true},
		{name: "iframe", raw: true},
		{name: "style", raw: true},
		{name: "xmp", raw: true, block: true},
		{name: "textarea", soft: true},
		{name: "title", soft: true},
		{name: "address", block: true},
		{name: "p", block: true},
		{name: "h6", block: true},
		{name: "ul", block: true},
		{name: "body", gone: true},
		{name: "html", gone: true},
		{name: "span"},
		{name: "template"},
		{name: "tr"},
		{name: "h7"},
		{name: "header", block: true},
		{name: "header "},
		{name: "HR"},
		{name: "Script"},
		{name: "titl"},
		{name: "body\x00"},
		{name: ""},
	} {
		if Void(x.name) != x.void || Raw(x.name) != x.raw || Soft(x.name) != x.soft || Block(x.name) != x.block || Gone(x.name) != x.gone {
			t.Errorf("%q: %t, %t, %t, %t, %t", x.name, Void(x.name), Raw(x.name), Soft(x.name), Block(x.name), Gone(x.name))
		}
	}
}

// P5.1: each name of each list, and all texts next to the names of all lists.
func TestLists(t *testing.T) {
	texts := asked()
	for _, l := range lists() {
		found := 0
		for _, s := range texts {
			want := slices.Contains(l.names, s)
			if l.is(s) != want {
				t.Errorf("%s(%q): %t, want %t", l.what, s, !want, want)
			}
			if want {
				found++
			}
		}
		if found != len(l.names) {
			t.Errorf("%s: %d names asked for of %d", l.what, found, len(l.names))
		}
	}
}

// P5.2: outcomes written out.
func TestSomeClosing(t *testing.T) {
	wall := []string{"button", "caption", "table", "td", "template", "th"}
	cells := []string{"table", "template"}
	sections := []string{"tbody", "td", "tfoot", "th", "thead", "tr"}
	for _, x := range []struct {
		name          string
		closes, walls []string
	}{
		{"li", []string{"li"}, []string{"menu", "ol", "template", "ul"}},
		{"dd", []string{"dd", "dt"}, []string{"dl", "template"}},
		{"dt", []string{"dd", "dt"}, []string{"dl", "template"}},
		{"option", []string{"option"}, []string{"select", "template"}},
		{"optgroup", []string{"optgroup", "option"}, []string{"select", "template"}},
		{"tr", []string{"td", "th", "tr"}, cells},
		{"td", []string{"td", "th"}, cells},
		{"th", []string{"td", "th"}, cells},
		{"tbody", sections, cells},
		{"tfoot", sections, cells},
		{"thead", sections, cells},
		{"p", []string{"p"}, wall},
		{"div", []string{"p"}, wall},
		{"dl", []string{"p"}, wall},
		{"ul", []string{"p"}, wall},
		{"table", []string{"p"}, wall},
		{"hr", []string{"p"}, wall},
		{"xmp", []string{"p"}, wall},
		{"b", nil, wall},
		{"button", nil, wall},
		{"caption", nil, wall},
		{"select", nil, wall},
		{"template", nil, wall},
		{"br", nil, wall},
		{"script", nil, wall},
		{"html", nil, wall},
		{"LI", nil, wall},
		{"tr ", nil, wall},
		{"", nil, wall},
	} {
		if closes := Closes(x.name); !slices.Equal(closes, x.closes) {
			t.Errorf("Closes(%q): %q, want %q", x.name, closes, x.closes)
		}
		if walls := Walls(x.name); !slices.Equal(walls, x.walls) {
			t.Errorf("Walls(%q): %q, want %q", x.name, walls, x.walls)
		}
	}
}

// P5.2: each name of each list, and all texts next to them; all lists sorted.
func TestClosing(t *testing.T) {
	for _, s := range asked() {
		closes, walls := Closes(s), Walls(s)
		wantCloses, wantWalls := wantClosing(s)
		if !slices.Equal(closes, strings.Fields(wantCloses)) {
			t.Errorf("Closes(%q): %q, want %s", s, closes, wantCloses)
		}
		if !slices.Equal(walls, strings.Fields(wantWalls)) {
			t.Errorf("Walls(%q): %q, want %s", s, walls, wantWalls)
		}
		for _, l := range [][]string{closes, walls} {
			if !slices.IsSorted(l) || len(slices.Compact(slices.Clone(l))) != len(l) {
				t.Errorf("%q: not sorted: %q", s, l)
			}
		}
	}
}

// wantNames is the chapter's P5.3: by the bytes that it leaves out.
func wantNames(s string) (right, attr bool) {
	if s == "" {
		return false, false
	}
	if strings.IndexByte(smalls, s[0]) >= 0 {
		right = true
	}
	attr = true
	for _, c := range []byte(s) {
		if strings.IndexByte(spaces+"\x00/>"+capitals, c) >= 0 {
			right, attr = false, false
		}
		if strings.IndexByte("\"'<=", c) >= 0 {
			attr = false
		}
	}
	return right, attr
}

// checkNames is P5.3 for one text.
func checkNames(t *testing.T, s string) {
	t.Helper()
	right, attr := wantNames(s)
	if Right(s) != right {
		t.Errorf("Right(%q): want %t", s, right)
	}
	if Attr(s) != attr {
		t.Errorf("Attr(%q): want %t", s, attr)
	}
}

// P5.3: outcomes written out.
func TestSomeRight(t *testing.T) {
	for _, x := range []struct {
		name        string
		right, attr bool
	}{
		{"", false, false},
		{"a", true, true},
		{"z", true, true},
		{"x-y", true, true},
		{"h1", true, true},
		{"1a", false, true},
		{"1", false, true},
		{"-a", false, true},
		{"_a", false, true},
		{":a", false, true},
		{"@a", false, true},
		{"[a", false, true},
		{"`a", false, true},
		{"{a", false, true},
		{"a:b", true, true},
		{"a@", true, true},
		{"a[", true, true},
		{"a`", true, true},
		{"a{", true, true},
		{"a.b?c!", true, true},
		{"\xc3\xa4", false, true},
		{"a\xc3\xa4", true, true},
		{"\xff", false, true},
		{"a\x80\xff", true, true},
		{"\x7f", false, true},
		{"\x01", false, true},
		{"a\x01\x0b\x1f\x7f", true, true},
		{"A", false, false},
		{"Z", false, false},
		{"aB", false, false},
		{"aZb", false, false},
		{" a", false, false},
		{"a ", false, false},
		{"a b", false, false},
		{"a\tb", false, false},
		{"a\nb", false, false},
		{"a\x0cb", false, false},
		{"a\rb", false, false},
		{"a\x0bb", true, true},
		{"a\x00", false, false},
		{"\x00", false, false},
		{"/", false, false},
		{"a/", false, false},
		{"a/b", false, false},
		{">", false, false},
		{"a>", false, false},
		{"a\"", true, false},
		{"a'", true, false},
		{"a<", true, false},
		{"a=", true, false},
		{"a<b", true, false},
		{"on=", true, false},
		{"=", false, false},
		{"=a", false, false},
		{"\"a\"", false, false},
		{"'", false, false},
		{"<", false, false},
		{"onclick", true, true},
		{"data-x", true, true},
	} {
		if Right(x.name) != x.right || Attr(x.name) != x.attr {
			t.Errorf("%q: %t, %t, want %t, %t", x.name, Right(x.name), Attr(x.name), x.right, x.attr)
		}
	}
}

// P5.3: each of the 256 bytes alone, at the first place, in the middle and at the end, and each pair of them.
func TestEachByte(t *testing.T) {
	for i := range 256 {
		c := string([]byte{byte(i)})
		for _, s := range []string{c, c + "a", c + "abc", "a" + c, "abc" + c, "a" + c + "b", "ab" + c + "cd", "1" + c, "1" + c + "2", c + c + c, "\xc3" + c + "\xa4"} {
			checkNames(t, s)
		}
		for k := range 256 {
			d := string([]byte{byte(k)})
			checkNames(t, c+d)
			checkNames(t, "x"+c+d+"y")
		}
	}
}

// P5.3: all short texts of the bytes that matter, and all for which the lists are asked.
func TestShortNames(t *testing.T) {
	for _, s := range textsOf(strings.Split("a z A Z 0 - / > \" ' < = \x00 \t \n", " "), 4) {
		checkNames(t, s)
	}
	for _, s := range textsOf([]string{"a", "A", "/", "=", "\xc3", "\x00", " "}, 6) {
		checkNames(t, s)
	}
	for _, s := range asked() {
		checkNames(t, s)
	}
}

// P5.3: one byte that may not stand in a name, anywhere in a long one.
func TestLongNames(t *testing.T) {
	const n = 1 << 20
	long := strings.Repeat("a", n)
	if !Right(long) || !Attr(long) || Void(long) || Block(long) || len(Closes(long)) != 0 || len(Walls(long)) != 6 {
		t.Error("a long name")
	}
	for _, i := range []int{0, 1, n / 2, n - 2, n - 1} {
		for _, c := range []string{"A", " ", "/", ">", "\x00"} {
			if s := long[:i] + c + long[i+1:]; Right(s) || Attr(s) {
				t.Errorf("a long name with %q at %d", c, i)
			}
		}
		if s := long[:i] + "=" + long[i+1:]; Right(s) != (i > 0) || Attr(s) {
			t.Errorf("a long name with = at %d", i)
		}
	}
}

// P5.4: no name is in two of Void, Raw, Soft and Gone, and each is a valid element name; those that are returned are too.
func TestApart(t *testing.T) {
	for _, s := range asked() {
		in := 0
		for _, is := range []func(string) bool{Void, Raw, Soft, Gone} {
			if is(s) {
				in++
			}
		}
		if in > 1 {
			t.Errorf("%q is in %d lists", s, in)
		}
		if (in > 0 || Block(s)) && !Right(s) {
			t.Errorf("%q is in a list, and not right", s)
		}
		for _, name := range append(Closes(s), Walls(s)...) {
			if !Right(name) {
				t.Errorf("%q, of those for %q, is not right", name, s)
			}
		}
	}
}

// spoil overwrites all of a list's memory, its spare capacity too, and makes it longer.
func spoil(l []string) {
	l = l[:cap(l)]
	for i := range l {
		l[i] = "spoilt"
	}
	_ = append(l[:0], slices.Repeat([]string{"more"}, cap(l)+1)...)
	_ = append(l, "more")
}

// R4, R5: a change in a list that was returned, its capacity used up too, changes no other list and no later answer.
func TestMemory(t *testing.T) {
	for _, s := range append(known(), "", "LI") {
		wantCloses, wantWalls := wantClosing(s)
		closes, walls := Closes(s), Walls(s)
		spoil(Closes(s))
		if !slices.Equal(closes, strings.Fields(wantCloses)) {
			t.Errorf("Closes(%q): changed to %q", s, closes)
		}
		spoil(Walls(s))
		if !slices.Equal(walls, strings.Fields(wantWalls)) {
			t.Errorf("Walls(%q): changed to %q", s, walls)
		}
		spoil(closes)
		spoil(walls)
	}
	for _, s := range append(known(), "", "LI") {
		wantCloses, wantWalls := wantClosing(s)
		if closes, walls := Closes(s), Walls(s); !slices.Equal(closes, strings.Fields(wantCloses)) || !slices.Equal(walls, strings.Fields(wantWalls)) {
			t.Errorf("%q, later: %q, %q", s, closes, walls)
		}
	}
	for _, l := range lists() {
		for _, name := range l.names {
			if !l.is(name) {
				t.Errorf("%s(%q), later: false", l.what, name)
			}
		}
	}
}

// R4: what was returned has no spare capacity that a later answer is written into.
func TestSpareCapacity(t *testing.T) {
	for _, s := range known() {
		first := Closes(s)
		second := append(first, "mine")
		third := append(Walls(s), "mine")
		for _, other := range known() {
			_ = append(Closes(other), "others")
			_ = append(Walls(other), "others")
		}
		if second[len(second)-1] != "mine" || third[len(third)-1] != "mine" {
			t.Errorf("%q: %q, %q", s, second, third)
		}
	}
}

// The chapter: the package imports fold.
func TestImports(t *testing.T) {
	f, err := parser.ParseFile(token.NewFileSet(), "names.go", nil, parser.ImportsOnly)
	if err != nil {
		t.Fatal(err)
	}
	for _, x := range f.Imports {
		if x.Path.Value != `"bolting/fold"` {
			t.Errorf("imports %s", x.Path.Value)
		}
	}
}
