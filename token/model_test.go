package token

import (
	"regexp"
	"slices"
	"strconv"
	"strings"
	"testing"

	"bolting/api"
	"bolting/names"
	"bolting/refs"
)

const spaces = "\t\n\f\r "

func rawNames() []string {
	return []string{"iframe", "noembed", "noframes", "script", "style", "xmp"}
}

func softNames() []string { return []string{"textarea", "title"} }

func isRaw(name string) bool { return slices.Contains(rawNames(), name) }

func isSoft(name string) bool { return slices.Contains(softNames(), name) }

// plain writes tokens down, a line each, with all their fields.
func plain(l []api.Token) string {
	var out []byte
	for _, t := range l {
		out = strconv.AppendInt(out, int64(t.Kind), 10)
		out = strconv.AppendQuote(append(out, ' '), t.Name)
		out = strconv.AppendQuote(append(out, ' '), t.Data)
		for _, a := range t.Attrs {
			out = strconv.AppendQuote(append(out, ' '), a.Name)
			out = strconv.AppendQuote(append(out, '='), a.Value)
		}
		out = strconv.AppendBool(append(out, ' '), t.Self)
		out = append(out, '\n')
	}
	return string(out)
}

// model is a plain reading of the chapter: patterns for what is not a tag, and states for a tag.
type model struct {
	begins, skipped, tag, comment, doctype, other *regexp.Regexp
	ends                                          map[string]*regexp.Regexp
}

func newModel() model {
	m := model{
		begins:  regexp.MustCompile(`(?s)<(?:[A-Za-z]|/.|[!?])`),
		skipped: regexp.MustCompile(`^</>`),
		tag:     regexp.MustCompile(`^</?[A-Za-z]`),
		comment: regexp.MustCompile(`(?s)^<!--(?:-?>|(.*?)(?:--!?>|\z))`),
		doctype: regexp.MustCompile(`^<![dD][oO][cC][tT][yY][pP][eE]([^A-Za-z>][^>]*)?(?:>|\z)`),
		other:   regexp.MustCompile(`^<[!/]?([^>]*)(?:>|\z)`),
		ends:    map[string]*regexp.Regexp{},
	}
	for _, name := range append(rawNames(), softNames()...) {
		pattern := "</"
		for _, c := range name {
			pattern += "[" + string(c) + strings.ToUpper(string(c)) + "]"
		}
		m.ends[name] = regexp.MustCompile(pattern + "[\t\n\f\r />]")
	}
	return m
}

// in is what the chapter says of In.
func (m model) in(s, name string) []api.Token {
	out, s := m.contents(nil, s, name)
	for s != "" {
		place := m.begins.FindStringIndex(s)
		if place == nil {
			return append(out, text(refs.Decode(s)))
		}
		if place[0] > 0 {
			out = append(out, text(refs.Decode(s[:place[0]])))
		}
		out, s = m.next(out, s[place[0]:])
	}
	return out
}

// next is out with what a '<' that begins something begins, and the rest.
func (m model) next(out []api.Token, s string) ([]api.Token, string) {
	if m.skipped.MatchString(s) {
		return out, s[3:]
	}
	if m.tag.MatchString(s) {
		t, rest, ended := m.readTag(s)
		if !ended {
			return out, ""
		}
		out = append(out, t)
		if t.Kind == api.TokStart {
			return m.contents(out, rest, t.Name)
		}
		return out, rest
	}
	if found := m.comment.FindStringSubmatch(s); found != nil {
		return append(out, note(found[1])), s[len(found[0]):]
	}
	if found := m.doctype.FindStringSubmatch(s); found != nil {
		return append(out, doc(strings.Trim(found[1], spaces))), s[len(found[0]):]
	}
	found := m.other.FindStringSubmatch(s)
	return append(out, note(found[1])), s[len(found[0]):]
}

// contents is out with the text that an element in Raw or Soft has, and the rest.
func (m model) contents(out []api.Token, s, name string) ([]api.Token, string) {
	if !isRaw(name) && !isSoft(name) {
		return out, s
	}
	data, rest := s, ""
	if place := m.ends[name].FindStringIndex(s); place != nil {
		data, rest = s[:place[0]], s[place[0]:]
	}
	if data == "" {
		return out, rest
	}
	if isSoft(name) {
		data = refs.Decode(data)
	}
	return append(out, text(data)), rest
}

// The states of readTag: before an attribute, in or behind its name, before its value, or in it.
const (
	inName = iota
	before
	inAttr
	behindAttr
	beforeValue
	inDouble
	inSingle
	inBare
)

// tagState is what readTag has read.
type tagState struct {
	state             int
	name, attr, value []byte
	self, has         bool
	all               []api.Attr
}

func (m model) readTag(s string) (t api.Token, rest string, ended bool) {
	var x tagState
	s = s[1:]
	t.Kind = api.TokStart
	if s[0] == '/' {
		t.Kind, s = api.TokEnd, s[1:]
	}
	for i := range len(s) {
		if x.step(s[i]) {
			t.Name = smalls(x.name)
			if t.Kind == api.TokStart {
				t.Self, t.Attrs = x.self, x.all
			}
			return t, s[i+1:], true
		}
	}
	return api.Token{}, "", false
}

// step takes one byte, and tells whether the tag ends with it.
func (x *tagState) step(c byte) bool {
	space := strings.IndexByte(spaces, c) >= 0
	switch x.state {
	case inName:
		if space || c == '/' || c == '>' {
			return x.between(c)
		}
		x.name = append(x.name, c)
	case before:
		return x.between(c)
	case inAttr:
		switch {
		case space:
			x.state = behindAttr
		case c == '=':
			x.state = beforeValue
		case c == '/' || c == '>':
			return x.between(c)
		default:
			x.attr = append(x.attr, c)
		}
	case behindAttr:
		switch {
		case space:
		case c == '=':
			x.state = beforeValue
		default:
			return x.between(c)
		}
	case beforeValue:
		switch {
		case space:
		case c == '"':
			x.state = inDouble
		case c == '\'':
			x.state = inSingle
		default:
			x.state = inBare
			return x.step(c)
		}
	case inDouble, inSingle:
		if c == '"' && x.state == inDouble || c == '\'' && x.state == inSingle {
			x.state, x.self = before, false
		} else {
			x.value = append(x.value, c)
		}
	case inBare:
		if space || c == '>' {
			return x.between(c)
		}
		x.value = append(x.value, c)
	}
	return false
}

// between takes a byte that is in no attribute yet.
func (x *tagState) between(c byte) bool {
	self := x.self
	x.state, x.self = before, false
	switch {
	case c == '>':
		x.end()
		x.self = self
		return true
	case c == '/':
		x.self = true
	case strings.IndexByte(spaces, c) < 0:
		x.end()
		x.state, x.has, x.attr = inAttr, true, []byte{c}
	}
	return false
}

// end puts an attribute that was read to the others, if none has its name.
func (x *tagState) end() {
	a := api.Attr{Name: smalls(x.attr), Value: refs.Decode(string(x.value))}
	if x.has && !slices.ContainsFunc(x.all, func(b api.Attr) bool { return a.Name == b.Name }) {
		x.all = append(x.all, a)
	}
	x.has, x.attr, x.value = false, nil, nil
}

func smalls(name []byte) string {
	out := slices.Clone(name)
	for i, c := range out {
		if c >= 'A' && c <= 'Z' {
			out[i] = c + 32
		}
	}
	return string(out)
}

// reading is one model for all tests, since its patterns take time to make.
var reading = newModel()

// checkReading holds In against the model, and what it returns against P6.3.
func checkReading(t *testing.T, s, name string) {
	t.Helper()
	l := In(s, name)
	if want := plain(reading.in(s, name)); plain(l) != want {
		t.Errorf("In(%q, %q):\n%swant:\n%s", s, name, plain(l), want)
	}
	checkForm(t, s, l)
	if !strings.ContainsAny(s, "<&") && s != "" && (len(l) != 1 || plain(l) != plain([]api.Token{text(s)})) {
		t.Errorf("In(%q, %q): not one unchanged text:\n%s", s, name, plain(l))
	}
}

// checkCut is checkReading for Cut.
func checkCut(t *testing.T, s string) {
	t.Helper()
	checkReading(t, s, "")
	if l := plain(Cut(s)); l != plain(In(s, "")) {
		t.Errorf("Cut(%q):\n%s", s, l)
	}
}

// checkForm is P6.3, and that fields that a kind does not have are empty.
func checkForm(t *testing.T, s string, l []api.Token) {
	t.Helper()
	for i, x := range l {
		tag := x.Kind == api.TokStart || x.Kind == api.TokEnd
		if tag && x.Data != "" || !tag && x.Name != "" || x.Kind != api.TokStart && (len(x.Attrs) > 0 || x.Self) {
			t.Errorf("%q: fields that token %d does not have:\n%s", s, i, plain(l))
		}
		// The input is used as it is, and so a byte 0 stays where it is.
		if tag && !names.Right(strings.ReplaceAll(x.Name, "\x00", "")) {
			t.Errorf("%q: name %q", s, x.Name)
		}
		for _, a := range x.Attrs {
			if name := strings.ReplaceAll(a.Name, "\x00", "0"); !names.Attr(name) && name[0] != '=' && !strings.ContainsAny(name, "\"'<") {
				t.Errorf("%q: attribute %q", s, a.Name)
			}
		}
		if x.Kind == api.TokText && x.Data == "" {
			t.Errorf("%q: token %d is an empty text", s, i)
		}
		if i > 0 && x.Kind == api.TokText && l[i-1].Kind == api.TokText && !strings.Contains(s, "</>") {
			t.Errorf("%q: texts %d and %d are adjacent", s, i-1, i)
		}
	}
}

// textsOf are all texts of at most n of the pieces of from.
func textsOf(from []string, n int) []string {
	all := []string{""}
	for start := 0; n > 0; n-- {
		end := len(all)
		for _, s := range all[start:end] {
			for _, piece := range from {
				all = append(all, s+piece)
			}
		}
		start = end
	}
	return all
}

// P6.1, P6.3: all texts of some pieces, behind what begins something.
func TestAllCut(t *testing.T) {
	for _, x := range []struct {
		ahead  string
		pieces []string
		most   int
	}{
		{"", []string{"<", "/", "!", "?", "-", ">", "a", " "}, 5},
		{"", []string{"<", "/", ">", "a", "&lt;", "&", "lt;"}, 5},
		{"", []string{"</>", "<a>", "</a>", "<!--", "-->", "<!", "<?", "</ ", "a", "<", ">"}, 4},
		{"<a", []string{" ", "/", ">", "=", "\"", "b"}, 6},
		{"<a ", []string{" ", "/", ">", "=", "\"", "'", "<", "b", "B"}, 5},
		{"</a", []string{" ", "/", ">", "=", "\"", "'", "b"}, 4},
		{"<a b=", []string{" ", "/", ">", "\"", "'", "=", "c", "&amp;"}, 5},
		{"<a", []string{" b=c", " B='d'", " b", "/", " ", ">", " =b=e", " c=\"", "\" "}, 5},
		{"<!--", []string{"-", "!", ">", "a"}, 7},
		{"<!--", []string{"--", "->", "!>", "<!--", "\n", "a"}, 5},
		{"<!", []string{"doctype", "DOCTYPE", "d", "-", " ", ">", "\n", "<"}, 4},
		{"<!doctype", []string{" ", "a", "Z", "1", ">", "\t", "<", "&amp;"}, 4},
		{"<!doc", []string{"type", "TYPE", "tYp", "e", " ", "\xc5\xbf", ">"}, 4},
	} {
		for _, s := range textsOf(x.pieces, x.most) {
			checkCut(t, x.ahead+s)
		}
	}
}

// P6.1: all texts of some pieces in elements of Raw and Soft.
func TestAllContents(t *testing.T) {
	for _, name := range append(rawNames(), softNames()...) {
		pieces := []string{"<", "</", name, strings.ToUpper(name), "</" + name, "/", ">", " ", "&lt;", "s"}
		for _, s := range textsOf(pieces, 4) {
			checkReading(t, s, name)
		}
		for _, s := range textsOf(pieces, 3) {
			checkCut(t, "<"+name+s)
			checkCut(t, "<"+name+">"+s)
			checkReading(t, s, name+"s")
		}
	}
	// The letters that the Kelvin sign and the long s are taken for elsewhere are none here.
	for _, s := range []string{"a</\xc5\xbfcript>b</script>", "a</\xc5\xbftyle>b", "a</style\xe2\x84\xaa>b"} {
		checkReading(t, s, "script")
		checkReading(t, s, "style")
	}
}

// P6.1: each byte at each place.
func TestEachByte(t *testing.T) {
	for i := range 256 {
		c := string([]byte{byte(i)})
		for _, s := range []string{
			c, "a" + c + "b", "<" + c, "<" + c + "a>b", "<a" + c, "<a" + c + ">b", "<a" + c + "b>c", "<a " + c + ">b", "<a " + c + "b=c>d", "<a b" + c + "=c>d", "<a b" + c + "c>d",
			"<a b=" + c + ">d", "<a b=" + c + "c>d", "<a b=c" + c + ">d", "<a b=c" + c + "d>e", "<a b=\"" + c + "\">d", "<a b='" + c + "'>d", "<a b=\"c\"" + c + ">d", "<a b='c'" + c + "d>e",
			"<a b =" + c + " c>d", "<a b" + c + " = c>d", "<a/" + c + ">b", "<a " + c + "/>b", "</" + c, "</" + c + "a>b", "</a" + c + ">b", "</a" + c + "b>c", "</" + c + ">d",
			"<!" + c, "<!" + c + "a>b", "<?" + c + ">b", "<!-" + c + "a-->b", "<!--" + c + "-->b", "<!--a" + c + "-->b", "<!--a-" + c + "->b", "<!--a--" + c + ">b", "<!--a--!" + c + ">b",
			"<!doctype" + c + ">b", "<!doctype" + c + "a>b", "<!doctype a" + c + ">b", "<!doctyp" + c + ">b", "<!" + c + "octype>b", "<!doctype " + c + "a" + c + ">b",
		} {
			checkCut(t, s)
		}
		for _, name := range []string{"style", "title"} {
			for _, s := range []string{c, "a" + c + "b", "a</" + name + c, "a</" + name + c + ">b", "a<" + c + name + ">b", "a</" + c + name[1:] + ">b", "a</" + name[:4] + c + ">b", "a" + c + "/" + name + ">b"} {
				checkReading(t, s, name)
				checkCut(t, "<"+name+">"+s)
			}
		}
	}
}

// wantWritten is the chapter's P6.2.
func wantWritten(l []api.Token) string {
	s := ""
	for i, t := range l {
		switch t.Kind {
		case api.TokText:
			if i > 0 && l[i-1].Kind == api.TokStart && isRaw(l[i-1].Name) {
				s += t.Data
			} else {
				s += refs.Text(t.Data)
			}
		case api.TokStart:
			s += "<" + t.Name
			for _, a := range t.Attrs {
				s += " " + a.Name + "=\"" + refs.Value(a.Value) + "\""
			}
			s += map[bool]string{true: " /", false: ""}[t.Self] + ">"
		case api.TokEnd:
			s += "</" + t.Name + ">"
		case api.TokComment:
			s += "<!--" + t.Data + "-->"
		case api.TokDoctype:
			s += "<!doctype " + t.Data + ">"
		}
	}
	return s
}

func checkWritten(t *testing.T, l []api.Token) {
	t.Helper()
	if s, want := Write(l), wantWritten(l); s != want {
		t.Errorf("Write:\n%s%q, want %q", plain(l), s, want)
	}
}

// P6.2: all lists of up to three tokens of some.
func TestAllWritten(t *testing.T) {
	some := []api.Token{
		text(""), text("a<&\">"), {Kind: api.TokText, Name: "style", Data: "<", Attrs: []api.Attr{{Name: "a"}}, Self: true},
		start("b"), start("style", "a", "<\""), selfClosed(start("xmp")), start("title", "a", "1", "a", "2"), start("SCRIPT"), {Kind: api.TokStart, Name: "script", Data: "x"},
		end("b"), end("style"), {Kind: api.TokEnd, Name: "script", Data: "x", Attrs: []api.Attr{{Name: "a"}}, Self: true},
		note("a<-->"), doc(" a<>"), {Kind: api.TokComment, Name: "style", Data: "x", Self: true}, {Kind: api.TokDoctype, Name: "style", Data: "x", Self: true},
		{Kind: -1, Name: "style", Data: "x"}, {Kind: 5, Name: "style", Data: "x"},
	}
	checkWritten(t, nil)
	for _, a := range some {
		checkWritten(t, []api.Token{a})
		for _, b := range some {
			checkWritten(t, []api.Token{a, b})
			for _, c := range some {
				checkWritten(t, []api.Token{a, b, c})
			}
		}
	}
}

// checkBack is P6.4 for one tag.
func checkBack(t *testing.T, x api.Token) {
	t.Helper()
	s := Write([]api.Token{x})
	if l := Cut(s); plain(l) != plain([]api.Token{x}) {
		t.Errorf("%q:\n%swant:\n%s", s, plain(l), plain([]api.Token{x}))
	}
	if l, want := Cut("a"+s+"</div>"), In("</div>", x.Name); plain(l) != plain(append([]api.Token{text("a"), x}, want...)) {
		t.Errorf("%q within other tokens:\n%s", s, plain(l))
	}
}

// P6.4: a start tag with valid names and values without byte 0 comes back as it was.
func TestBack(t *testing.T) {
	elements := append(append(rawNames(), softNames()...), "a", "z", "h1", "x-y", "a=", "a\"b'", "a<b", "a\xc3\xa4\xff", "a\x01", "a!--", "a&amp;", "a@[`{", "br", "html", "doctype")
	attrs := []string{"a", "on-x", "1", "!", "?", "-", "&amp;", "\xc3\xa4", "\xff", "\x01", "@[`{", "a&lt;b", "xmlns:a", "\xc2\xa0"}
	values := []string{
		"", " ", "a", "A b", "\"", "'", "\"'\"", "<", ">", "/", "=", "/>", "\">", "'>", "</a>", "<b>", "&", "&amp;", "&lt", "&#60;", "&amp;lt;", "\xc2\xa0", "\xc2", "\xa0",
		"\xff", odd, "\t\n\f\r", "\r\n", "\x01", "-->", "a=b", "&quot;", " a ", "\xe2\x82\xac",
	}
	for _, name := range elements {
		if !names.Right(name) {
			t.Errorf("%q is not right", name)
		}
		checkBack(t, start(name))
		checkBack(t, selfClosed(start(name)))
		for _, attr := range attrs {
			if !names.Attr(attr) {
				t.Errorf("%q is not right", attr)
			}
			for _, value := range values {
				checkBack(t, start(name, attr, value))
				checkBack(t, selfClosed(start(name, attr, value)))
				checkBack(t, start(name, "b", value, attr, value))
				checkBack(t, selfClosed(start(name, attr, "", "c", value, "d", "")))
			}
		}
	}
}

// P6.4: each byte of a valid name, and of a value; all pairs of bytes as values.
func TestEachByteBack(t *testing.T) {
	for i := range 256 {
		c := string([]byte{byte(i)})
		for _, name := range []string{c, "a" + c, "a" + c + "b"} {
			if names.Right(name) {
				checkBack(t, start(name, "b", "c"))
			}
			if names.Attr(name) {
				checkBack(t, start("a", name, "", "x"+name, "c"))
				checkBack(t, selfClosed(start("a", name, "b")))
			}
		}
		for k := range 256 {
			if i > 0 && k > 0 {
				checkBack(t, start("a", "b", string([]byte{byte(i), byte(k)})))
			}
		}
	}
}

// P6.1, P6.2: long documents, on which a function that takes time by the square would not end in time.
func TestLong(t *testing.T) {
	const n = 1 << 18
	for _, x := range []struct {
		piece string
		want  int
	}{
		{"<", 1}, {"&", 1}, {"&lt;<", 1}, {"</>", 0}, {"a</>", n}, {"<a>", n}, {"a<b>", 2 * n}, {"</a>", n}, {"<a b='c", 0}, {"<a b=\"", 0}, {"<a b=c ", 0}, {"<a / ", 0}, {"</a ", 0},
		{"<!-->", n}, {"<!--a-->", n}, {"<!--a--!>", n}, {"<!--", 1}, {"<!--a", 1}, {"<!", 1}, {"<?", 1}, {"</ ", 1}, {"<!>", n}, {"</ >", n}, {"<!doctype", 1}, {"<!doctype >", n},
		{"<style>", 2}, {"<style></styl", 2}, {"<style></style>", 2 * n}, {"<title>&lt;</title >", 3 * n}, {"<script></script ", n},
	} {
		l := Cut(strings.Repeat(x.piece, n))
		if len(l) != x.want {
			t.Errorf("Cut of many %q: %d tokens, want %d", x.piece, len(l), x.want)
		}
		Write(l)
	}
	for _, ahead := range []string{"<a ", "<!--", "<style>", "<title>", "<!doctype ", "</a ", "<?"} {
		for _, piece := range []string{" ", "/", "=", "\"", "' ", "-", "--", "</", "</styl", "</title", "&", "a", "<!--"} {
			Cut(ahead + strings.Repeat(piece, n))
		}
	}
}

// P6.1, P6.4: a tag with many attributes, each of them twice.
func TestManyAttrs(t *testing.T) {
	const n = 1 << 16
	x, s := start("a"), "<a"
	var all []string
	for i := range n {
		name := "b" + strconv.Itoa(i)
		x.Attrs = append(x.Attrs, api.Attr{Name: name, Value: "<" + name})
		all = append(all, " "+name+"=<"+name, " "+strings.ToUpper(name)+"=other")
	}
	s += strings.Join(all, "") + ">"
	if plain(Cut(s)) != plain([]api.Token{x}) {
		t.Error("attributes that come twice")
	}
	if plain(Cut(Write([]api.Token{x}))) != plain([]api.Token{x}) {
		t.Error("attributes written")
	}
}
