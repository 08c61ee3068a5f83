package token

import (
	"go/parser"
	gotoken "go/token"
	"strings"
	"testing"

	"bolting/api"
)

const odd = "\xef\xbf\xbd"

func text(s string) api.Token { return api.Token{Kind: api.TokText, Data: s} }

// start is a start tag with attributes, each a name and a value.
func start(name string, attrs ...string) api.Token {
	t := api.Token{Kind: api.TokStart, Name: name}
	for i := 0; i < len(attrs); i += 2 {
		t.Attrs = append(t.Attrs, api.Attr{Name: attrs[i], Value: attrs[i+1]})
	}
	return t
}

func selfClosed(t api.Token) api.Token {
	t.Self = true
	return t
}

func end(name string) api.Token { return api.Token{Kind: api.TokEnd, Name: name} }

func note(s string) api.Token { return api.Token{Kind: api.TokComment, Data: s} }

func doc(s string) api.Token { return api.Token{Kind: api.TokDoctype, Data: s} }

// outcome is a document and what it is cut into.
type outcome struct {
	s    string
	want []api.Token
}

func of(s string, want ...api.Token) outcome { return outcome{s, want} }

// checkOutcomes holds Cut against what is written out, and so the model too.
func checkOutcomes(t *testing.T, all ...outcome) {
	t.Helper()
	for _, x := range all {
		if l := Cut(x.s); plain(l) != plain(x.want) {
			t.Errorf("Cut(%q):\n%swant:\n%s", x.s, plain(l), plain(x.want))
		}
		checkCut(t, x.s)
	}
}

// P6.1: texts: references, and a '<' that begins nothing.
func TestTexts(t *testing.T) {
	checkOutcomes(t,
		of(""),
		of("a", text("a")),
		of(" \t\n\f\r ", text(" \t\n\f\r ")),
		of("a>b/c=\"d\"'e'!--?", text("a>b/c=\"d\"'e'!--?")),
		of("-->", text("-->")),
		of("<", text("<")),
		of("<<", text("<<")),
		of("</", text("</")),
		of("a</", text("a</")),
		of("<</", text("<</")),
		of("<a></", start("a"), text("</")),
		of("1 < 2", text("1 < 2")),
		of("a<1b<>c< d<&e", text("a<1b<>c< d<&e")),
		of("<=a><-b><\"c\"><'d'><_e><.f>", text("<=a><-b><\"c\"><'d'><_e><.f>")),
		of("<@><[><`><{>", text("<@><[><`><{>")),
		of("<\x00><\x80a><\xc3\xa4><\xff>", text("<\x00><\x80a><\xc3\xa4><\xff>")),
		of("<<a>", text("<"), start("a")),
		of("<<</a>", text("<<"), end("a")),
		of("a < b<c>d < e", text("a < b"), start("c"), text("d < e")),
		of("&lt;a&gt;", text("<a>")),
		of("&lt;b>&#60;/b>", text("<b></b>")),
		of("&lt<&gt;&#60;<&#x3c;/", text("&lt<><<</")),
		of("&am< p;&#6<5;&amp;lt;", text("&am< p;&#6<5;&lt;")),
		of("&am</>p;", text("&am"), text("p;")),
		of("&am<b>p;", text("&am"), start("b"), text("p;")),
		of("&nope;&amp", text("&nope;&amp")),
		of("a\x00b\xff\xc2&#0;&#13;", text("a\x00b\xff\xc2"+odd+"\n")),
		of("a\r\nb\rc", text("a\r\nb\rc")),
	)
}

// P6.1: '</>' is skipped, and parts the texts around it.
func TestSkipped(t *testing.T) {
	checkOutcomes(t,
		of("</>"),
		of("</></>"),
		of("a</>b", text("a"), text("b")),
		of("a</></>b</>", text("a"), text("b")),
		of("</>a", text("a")),
		of("<</>>", text("<"), text(">")),
		of("</>a</", text("a</")),
		of("<a></></a>", start("a"), end("a")),
		of("</ >a", note(" "), text("a")),
		of("<//>a", note("/"), text("a")),
	)
}

// P6.1: comments.
func TestComments(t *testing.T) {
	checkOutcomes(t,
		of("<!---->", note("")),
		of("<!--a-->", note("a")),
		of("a<!--b-->c", text("a"), note("b"), text("c")),
		of("<!-->a-->", note(""), text("a-->")),
		of("<!--->a-->", note(""), text("a-->")),
		of("<!----->a-->", note("-"), text("a-->")),
		of("<!------>a", note("--"), text("a")),
		of("<!-- >a-->", note(" >a")),
		of("<!-- ->a-->", note(" ->a")),
		of("<!--a>b->c-->d", note("a>b->c"), text("d")),
		of("<!--->", note("")),
		of("<!-->", note("")),
		of("<!--", note("")),
		of("<!---", note("-")),
		of("<!----", note("--")),
		of("<!----!", note("--!")),
		of("<!----!>a", note(""), text("a")),
		of("<!---!>a", note("-!>a")),
		of("<!--!>a-->", note("!>a")),
		of("<!--a--!>b-->", note("a"), text("b-->")),
		of("<!--a-->b--!>", note("a"), text("b--!>")),
		of("<!--a---->b", note("a--"), text("b")),
		of("<!--a---!>b", note("a-"), text("b")),
		of("<!--a--!->b-->c", note("a--!->b"), text("c")),
		of("<!--a--!!>b", note("a--!!>b")),
		of("<!--a--", note("a--")),
		of("<!--a--!", note("a--!")),
		of("<!--a-", note("a-")),
		of("<!--a-- >b", note("a-- >b")),
		of("<!--<b>&amp;</b><!--c-->d", note("<b>&amp;</b><!--c"), text("d")),
		of("<!--\x00\xff\r\n-->", note("\x00\xff\r\n")),
		of("<!- -a-->b", note("- -a--"), text("b")),
		of("<!-", note("-")),
		of("<!->", note("-")),
	)
}

// P6.1: comments that begin with '!', '?', or '/' and another byte.
func TestOtherComments(t *testing.T) {
	checkOutcomes(t,
		of("<!>a", note(""), text("a")),
		of("<!a>b", note("a"), text("b")),
		of("<!a", note("a")),
		of("<!", note("")),
		of("a<!", text("a"), note("")),
		of("<!!a>", note("!a")),
		of("<!/a>", note("/a")),
		of("<!?a>", note("?a")),
		of("<! --a-->b", note(" --a--"), text("b")),
		of("<![CDATA[a>b]]>", note("[CDATA[a"), text("b]]>")),
		of("<?>a", note("?"), text("a")),
		of("<?a?>b", note("?a?"), text("b")),
		of("<?", note("?")),
		of("<??", note("??")),
		of("<?!a>", note("?!a")),
		of("<?/a>", note("?/a")),
		of("<?a", note("?a")),
		of("</ >", note(" ")),
		of("</ a>b", note(" a"), text("b")),
		of("</1>a", note("1"), text("a")),
		of("</1", note("1")),
		of("<//>a", note("/"), text("a")),
		of("<///", note("//")),
		of("<a><///>b", start("a"), note("//"), text("b")),
		of("</!-->a", note("!--"), text("a")),
		of("</!a>", note("!a")),
		of("</?a>", note("?a")),
		of("<//a", note("/a")),
		of("</</a>b", note("</a"), text("b")),
		of("</=\"a>b\">", note("=\"a"), text("b\">")),
		of("</\x00>", note("\x00")),
		of("</\xc3\xa4>", note("\xc3\xa4")),
		of("</&amp;>", note("&amp;")),
		of("<!&amp;<b>c", note("&amp;<b"), text("c")),
		of("<? a ?>", note("? a ?")),
		of("<! a >", note(" a ")),
	)
}

// P6.1: doctypes.
func TestDoctypes(t *testing.T) {
	checkOutcomes(t,
		of("<!doctype html>", doc("html")),
		of("<!DOCTYPE HTML>a", doc("HTML"), text("a")),
		of("<!DocType \t\n\f\r html \t\n\f\r >", doc("html")),
		of("<!dOCtYPe>", doc("")),
		of("<!doctype", doc("")),
		of("<!doctype ", doc("")),
		of("<!doctype a  b", doc("a  b")),
		of("<!doctype1>", doc("1")),
		of("<!doctype-a>", doc("-a")),
		of("<!doctype/>", doc("/")),
		of("<!doctype\"a>b\">", doc("\"a"), text("b\">")),
		of("<!doctype<a>b", doc("<a"), text("b")),
		of("<!doctype &amp;>", doc("&amp;")),
		of("<!doctype\x00>", doc("\x00")),
		of("<!doctype\xc3\xa4>", doc("\xc3\xa4")),
		of("<!doctype@><!doctype[><!doctype`><!doctype{>", doc("@"), doc("["), doc("`"), doc("{")),
		of("<!doctypes>", note("doctypes")),
		of("<!doctypea><!doctypez><!DOCTYPEA><!DOCTYPEZ>", note("doctypea"), note("doctypez"), note("DOCTYPEA"), note("DOCTYPEZ")),
		of("<!doctypehtml", note("doctypehtml")),
		of("<!doctyp>", note("doctyp")),
		of("<!doctyp", note("doctyp")),
		of("<!doctyp e>", note("doctyp e")),
		of("<! doctype>", note(" doctype")),
		of("<!-doctype>", note("-doctype")),
		of("<doctype a>", start("doctype", "a", "")),
		of("<?doctype a>", note("?doctype a")),
		of("</doctype a>", end("doctype")),
	)
}

// P6.1: the names of tags.
func TestTagNames(t *testing.T) {
	checkOutcomes(t,
		of("<a>", start("a")),
		of("<A>", start("a")),
		of("<z></Z>", start("z"), end("z")),
		of("<Z></z>", start("z"), end("z")),
		of("a<B c=d>x</b >", text("a"), start("b", "c", "d"), text("x"), end("b")),
		of("<aBcDeFZ-1.2_:@>", start("abcdefz-1.2_:@")),
		of("<a\tb><a\nb><a\fb><a\rb><a b>", start("a", "b", ""), start("a", "b", ""), start("a", "b", ""), start("a", "b", ""), start("a", "b", "")),
		of("<a\x0bb>", start("a\x0bb")),
		of("<a/b>", start("a", "b", "")),
		of("<a=b>", start("a=b")),
		of("<a=b c>", start("a=b", "c", "")),
		of("<a\"b'c<d>e", start("a\"b'c<d"), text("e")),
		of("<a<b>", start("a<b")),
		of("<a</b>", start("a<", "b", "")),
		of("<a!--b-->", start("a!--b--")),
		of("<a&amp;>", start("a&amp;")),
		of("<a\x00>", start("a\x00")),
		of("<A\xff\xc3\x84>", start("a\xff\xc3\x84")),
		of("</A>", end("a")),
		of("</a\x00B\xff>", end("a\x00b\xff")),
		of("</aB\"c'=d<e>", end("ab\"c'=d<e")),
		of("</a/b>", end("a")),
	)
}

// P6.1: attributes' names, and values in each form.
func TestAttrs(t *testing.T) {
	checkOutcomes(t,
		of("<a b>", start("a", "b", "")),
		of("<a  b \t\n\f\r c>", start("a", "b", "", "c", "")),
		of("<a b=c>", start("a", "b", "c")),
		of("<a b=c d=e>", start("a", "b", "c", "d", "e")),
		of("<a b \t\n\f\r = \t\n\f\r c d>", start("a", "b", "c", "d", "")),
		of("<a b\x0b=\x0bc>", start("a", "b\x0b", "\x0bc")),
		of("<a b=\"c\">", start("a", "b", "c")),
		of("<a b='c'>", start("a", "b", "c")),
		of("<a b = \"c\" d = 'e'>", start("a", "b", "c", "d", "e")),
		of("<a b=\"c\"d='e'f>", start("a", "b", "c", "d", "e", "f", "")),
		of("<a b=\"\">", start("a", "b", "")),
		of("<a b='' c>", start("a", "b", "", "c", "")),
		of("<a b=\"'\" c='\"'>", start("a", "b", "'", "c", "\"")),
		of("<a b=\"c>d </a>\"e>", start("a", "b", "c>d </a>", "e", "")),
		of("<a b='c>d/'>", start("a", "b", "c>d/")),
		of("<a b=\" c\n \">", start("a", "b", " c\n ")),
		of("<a b=>", start("a", "b", "")),
		of("<a b= >c", start("a", "b", ""), text("c")),
		of("<a b=c\"d'e>", start("a", "b", "c\"d'e")),
		of("<a b=c=d>", start("a", "b", "c=d")),
		of("<a b==c>", start("a", "b", "=c")),
		of("<a b=<c>d", start("a", "b", "<c"), text("d")),
		of("<a b=/>c", start("a", "b", "/"), text("c")),
		of("<a b= />", start("a", "b", "/")),
		of("<a b=c/d e>", start("a", "b", "c/d", "e", "")),
		of("<a b=`c d`>", start("a", "b", "`c", "d`", "")),
		of("<a b /=c>", start("a", "b", "", "=c", "")),
		of("<a b/ =c>", start("a", "b", "", "=c", "")),
		of("<a b= \"c\"\"d\">", start("a", "b", "c", "\"d\"", "")),
		of("<a =>", start("a", "=", "")),
		of("<a =b>", start("a", "=b", "")),
		of("<a ==>", start("a", "=", "")),
		of("<a ==b>", start("a", "=", "b")),
		of("<a =b=c>", start("a", "=b", "c")),
		of("<a = b>", start("a", "=", "", "b", "")),
		of("<a/=b>", start("a", "=b", "")),
		of("<a =\"b c\">", start("a", "=\"b", "", "c\"", "")),
		of("<a \"b\"=c 'd'=e <f=g h\"i'j<k=l>", start("a", "\"b\"", "c", "'d'", "e", "<f", "g", "h\"i'j<k", "l")),
		of("<a \"b>c\">", start("a", "\"b", ""), text("c\">")),
		of("<a <b>", start("a", "<b", "")),
		of("<a ! ? - 1 &amp;>", start("a", "!", "", "?", "", "-", "", "1", "", "&amp;", "")),
		of("<a ONclick=Bc>", start("a", "onclick", "Bc")),
		of("<a b\x00\xff=\x00\xff>", start("a", "b\x00\xff", "\x00\xff")),
		of("<a \x00 \xff=\xc3\x84>", start("a", "\x00", "", "\xff", "\xc3\x84")),
	)
}

// P6.1: references in values, and the same name more than once.
func TestValues(t *testing.T) {
	checkOutcomes(t,
		of("<a b=&lt;>", start("a", "b", "<")),
		of("<a b=\"&quot;\" c='&apos;' d=&#32;&gt; e>", start("a", "b", "\"", "c", "'", "d", " >", "e", "")),
		of("<a b=\"&amp;lt;\">", start("a", "b", "&lt;")),
		of("<a b=\"&lt\" c=';'>", start("a", "b", "&lt", "c", ";")),
		of("<a b=&l t;>", start("a", "b", "&l", "t;", "")),
		of("<a b=&quot;c&quot;>", start("a", "b", "\"c\"")),
		of("<a b=\"&#0;&#13;&nbsp;\">", start("a", "b", odd+"\n\xc2\xa0")),
		of("<a b&equals;c=&colon;>", start("a", "b&equals;c", ":")),
		of("<a b=1 b=2>", start("a", "b", "1")),
		of("<a b=1 B=2 c=3 b>", start("a", "b", "1", "c", "3")),
		of("<a B b=2>", start("a", "b", "")),
		of("<a b=\"\" b=\"x\">", start("a", "b", "")),
		of("<a c b=1 c=2 B='3' C/b>d", start("a", "c", "", "b", "1"), text("d")),
		of("<a =b=1 =B=2 b=3>", start("a", "=b", "1", "b", "3")),
		of("<a b=1><a b=2>", start("a", "b", "1"), start("a", "b", "2")),
		of("<a b=1 b=\"2>3\" c>", start("a", "b", "1", "c", "")),
		of("<a \xc3\x84=1 \xc3\xa4=2>", start("a", "\xc3\x84", "1", "\xc3\xa4", "2")),
	)
}

// P6.1: whether a tag ends with a slash.
func TestSelf(t *testing.T) {
	checkOutcomes(t,
		of("<a/>", selfClosed(start("a"))),
		of("<a />", selfClosed(start("a"))),
		of("<a //>", selfClosed(start("a"))),
		of("<a / />", selfClosed(start("a"))),
		of("<a/ >", start("a")),
		of("<a/\t><a/\n><a/\f><a/\r>", start("a"), start("a"), start("a"), start("a")),
		of("<a b/>", selfClosed(start("a", "b", ""))),
		of("<a b />", selfClosed(start("a", "b", ""))),
		of("<a/b>", start("a", "b", "")),
		of("<a/b=c>", start("a", "b", "c")),
		of("<a/b='c'>", start("a", "b", "c")),
		of("<a/b b>", start("a", "b", "")),
		of("<a b/b>", start("a", "b", "")),
		of("<a b=c/>", start("a", "b", "c/")),
		of("<a b=c />", selfClosed(start("a", "b", "c"))),
		of("<a b=\"c\"/>", selfClosed(start("a", "b", "c"))),
		of("<a b='c'/ >", start("a", "b", "c")),
		of("<a b='c/'>", start("a", "b", "c/")),
		of("<a =/>", selfClosed(start("a", "=", ""))),
		of("<br/>a", selfClosed(start("br")), text("a")),
		of("<br/><br>", selfClosed(start("br")), start("br")),
		of("</a/>b", end("a"), text("b")),
		of("</a b=c d='e' />f", end("a"), text("f")),
		of("</a b='>'>c", end("a"), text("c")),
	)
}

// P6.1: tags that s ends within are ignored, whatever stands in them.
func TestUnended(t *testing.T) {
	for _, tag := range []string{
		"<a", "<abc", "<A ", "<a\n", "<a/", "<a//", "<a / ", "<a b", "<a bc", "<a b ", "<a b  ", "<a b/", "<a b=", "<a b= ", "<a b=c", "<a b=c ", "<a b=c/",
		"<a b=\"", "<a b='", "<a b=\"c", "<a b='c", "<a b=\"c>", "<a b='c>d", "<a b=\"c' d>", "<a b='c\" d>", "<a b=\"c\"", "<a b='c'", "<a b='c'/", "<a b='c' d",
		"<a =", "<a ==", "<a =b", "<a <b", "<a \"", "<a b=<!--c--", "<script", "<script ", "<title a=\"></title>", "<a\x00", "<a \xff",
		"<a b c=d e='f' g=\"h\" /", "<a b=\"&lt;", "<a b=&lt;",
	} {
		for _, x := range []outcome{
			of(tag),
			of("</" + tag[1:]),
			of("x"+tag, text("x")),
			of("x</"+tag[1:], text("x")),
			of("<b>x</b>y"+tag, start("b"), text("x"), end("b"), text("y")),
			of("&lt;</>&gt;</"+tag[1:], text("<"), text(">")),
			of("x<<"+tag, text("x<<")),
		} {
			checkOutcomes(t, x)
		}
	}
}

// P6.1: for each name of Raw and Soft, what ends its text and what does not.
func TestTextElements(t *testing.T) {
	for _, name := range append(rawNames(), softNames()...) {
		big := strings.ToUpper(name)
		mixed := big[:1] + name[1:]
		is := func(s string) api.Token {
			if isSoft(name) {
				s = strings.NewReplacer("&lt;", "<", "&amp;", "&").Replace(s)
			}
			return text(s)
		}
		for _, x := range []outcome{
			of("</"+name+">", end(name)),
			of("a</"+name+">b", is("a"), end(name), text("b")),
			of("<b>&lt;</b><!--c--><!doctype d></><?e></ f></"+name+">&lt;", is("<b>&lt;</b><!--c--><!doctype d></><?e></ f>"), end(name), text("<")),
			of("&amp;lt;&lt;/"+name+"></"+name+">", is("&amp;lt;&lt;/"+name+">"), end(name)),
			of("a</"+big+">b</"+mixed+">", is("a"), end(name), text("b"), end(name)),
			of("a</"+mixed+"\t>b", is("a"), end(name), text("b")),
			of("a</"+name+"\n>b", is("a"), end(name), text("b")),
			of("a</"+name+"\f>b", is("a"), end(name), text("b")),
			of("a</"+name+"\r>b", is("a"), end(name), text("b")),
			of("a</"+name+" >b", is("a"), end(name), text("b")),
			of("a</"+name+"/>b", is("a"), end(name), text("b")),
			of("a</"+name+" b=\"c>\"/>d", is("a"), end(name), text("d")),
			of("a</"+name+"s></"+name, is("a</"+name+"s></"+name)),
			of("a</"+name+"\x0b></"+name+"\x00></"+name+"=></"+name+"\"></"+name+"<>", is("a</"+name+"\x0b></"+name+"\x00></"+name+"=></"+name+"\"></"+name+"<>")),
			of("a</"+name[:len(name)-1]+">", is("a</"+name[:len(name)-1]+">")),
			of("a</"+name[1:]+">", is("a</"+name[1:]+">")),
			of("a</ "+name+">b", is("a</ "+name+">b")),
			of("a<"+name+">b<//"+name+">", is("a<"+name+">b<//"+name+">")),
			of("a</div></"+name+"1></"+name+">b", is("a</div></"+name+"1>"), end(name), text("b")),
			of("a<</"+name+">b", is("a<"), end(name), text("b")),
			of("a</</"+name+">b", is("a</"), end(name), text("b")),
			of("a</"+name+"</"+name+">b", is("a</"+name), end(name), text("b")),
			of("a</"+name+" b", is("a")),
			of("a</"+name+"/", is("a")),
			of("a</"+name+" b='>", is("a")),
			of("</" + name + " "),
			of(""),
			of("a", is("a")),
			of("<", is("<")),
			of("</", is("</")),
			of("a</"+name, is("a</"+name)),
			of("a\x00\xff\r\n", is("a\x00\xff\r\n")),
			of("</"+name+"><"+name+"><b></"+name+">c", end(name), start(name), is("<b>"), end(name), text("c")),
		} {
			checkIn(t, x, name)
			checkOutcomes(t,
				of("<"+name+">"+x.s, append([]api.Token{start(name)}, x.want...)...),
				of("x<"+big+" b=c>"+x.s, append([]api.Token{text("x"), start(name, "b", "c")}, x.want...)...),
				of("<"+mixed+" b='>' />"+x.s, append([]api.Token{selfClosed(start(name, "b", ">"))}, x.want...)...),
				of("<"+name+"/>"+x.s, append([]api.Token{selfClosed(start(name))}, x.want...)...),
			)
		}
		checkOutcomes(t,
			of("</"+name+"><b>c", end(name), start("b"), text("c")),
			of("<"+name+"s><b>c", start(name+"s"), start("b"), text("c")),
			of("<"+name+"\x00><b>", start(name+"\x00"), start("b")),
		)
	}
}

// checkIn holds In against what is written out, and so the model too.
func checkIn(t *testing.T, x outcome, name string) {
	t.Helper()
	if l := In(x.s, name); plain(l) != plain(x.want) {
		t.Errorf("In(%q, %q):\n%swant:\n%s", x.s, name, plain(l), plain(x.want))
	}
	checkReading(t, x.s, name)
}

// P6.1: In, for names in Raw, in Soft and in neither.
func TestIn(t *testing.T) {
	const s = "a<b>&lt;</B><!--c--></style >&amp;</title/><!doctype d>"
	x := of(s, text("a"), start("b"), text("<"), end("b"), note("c"), end("style"), text("&"), end("title"), doc("d"))
	for _, name := range []string{"", "div", "p", "br", "b", "html", "body", "plaintext", "noscript", "template", "STYLE", "Title", " style", "style ", "styles", "styl", "style\x00", "\xff", "<", ">"} {
		checkIn(t, x, name)
	}
	checkIn(t, of(s, text("a<b>&lt;</B><!--c-->"), end("style"), text("&"), end("title"), doc("d")), "style")
	checkIn(t, of(s, text("a<b><</B><!--c--></style >&"), end("title"), doc("d")), "title")
	checkIn(t, of(s, text(s)), "script")
	checkIn(t, of(s, text("a<b><</B><!--c--></style >&</title/><!doctype d>")), "textarea")
	checkIn(t, of("a<style><b></style>c", text("a"), start("style"), text("<b>"), end("style"), text("c")), "title ")
	checkIn(t, of("a<style><b></style>c", text("a<style><b>"), end("style"), text("c")), "style")
	for _, name := range append(append(rawNames(), softNames()...), "", "div") {
		checkIn(t, of(""), name)
	}
}

// P6.2: outcomes written out, of each kind and of none.
func TestSomeWritten(t *testing.T) {
	full := api.Token{Name: "n", Data: "d", Attrs: []api.Attr{{Name: "a", Value: "v"}}, Self: true}
	kind := func(k int) api.Token {
		t := full
		t.Kind = k
		return t
	}
	nbsp := "\xc2\xa0"
	for _, x := range []struct {
		l    []api.Token
		want string
	}{
		{nil, ""},
		{[]api.Token{}, ""},
		{[]api.Token{text("")}, ""},
		{[]api.Token{text("a<b>&\"'" + nbsp)}, "a&lt;b&gt;&amp;\"'&nbsp;"},
		{[]api.Token{text("&lt;"), text("</a>"), text("\x00\xff\r")}, "&amp;lt;&lt;/a&gt;\x00\xff\r"},
		{[]api.Token{text("\xc2"), text("\xa0")}, nbsp},
		{[]api.Token{start("a")}, "<a>"},
		{[]api.Token{selfClosed(start("a"))}, "<a />"},
		{[]api.Token{start("a", "b", "", "c", "d e")}, "<a b=\"\" c=\"d e\">"},
		{[]api.Token{selfClosed(start("a", "b", "<\"'&>"+nbsp))}, "<a b=\"&lt;&quot;'&amp;&gt;&nbsp;\" />"},
		{[]api.Token{start("a", "b", "1", "b", "2", "", "3")}, "<a b=\"1\" b=\"2\" =\"3\">"},
		{[]api.Token{start("A <&", "=\"B<&", "")}, "<A <& =\"B<&=\"\">"},
		{[]api.Token{start("")}, "<>"},
		{[]api.Token{end("a")}, "</a>"},
		{[]api.Token{end("")}, "</>"},
		{[]api.Token{end("A <&")}, "</A <&>"},
		{[]api.Token{note("a")}, "<!--a-->"},
		{[]api.Token{note("")}, "<!---->"},
		{[]api.Token{note("<&>--><" + nbsp)}, "<!--<&>--><" + nbsp + "-->"},
		{[]api.Token{doc("html")}, "<!doctype html>"},
		{[]api.Token{doc("")}, "<!doctype >"},
		{[]api.Token{doc(" <&> " + nbsp)}, "<!doctype  <&> " + nbsp + ">"},
		{[]api.Token{kind(api.TokText)}, "d"},
		{[]api.Token{kind(api.TokStart)}, "<n a=\"v\" />"},
		{[]api.Token{kind(api.TokEnd)}, "</n>"},
		{[]api.Token{kind(api.TokComment)}, "<!--d-->"},
		{[]api.Token{kind(api.TokDoctype)}, "<!doctype d>"},
		{[]api.Token{kind(-1)}, ""},
		{[]api.Token{kind(5)}, ""},
		{[]api.Token{kind(1 << 62), kind(-1 << 63), text("a"), kind(257)}, "a"},
		{[]api.Token{text("a"), start("b"), text("c"), end("b"), note("d"), doc("e"), text("f")}, "a<b>c</b><!--d--><!doctype e>f"},
	} {
		if s := Write(x.l); s != x.want {
			t.Errorf("Write:\n%s%q, want %q", plain(x.l), s, x.want)
		}
		checkWritten(t, x.l)
	}
}

// P6.2: a text directly behind a start tag of each name in Raw, and texts that are elsewhere.
func TestRawWritten(t *testing.T) {
	const as, escaped = "<&>\"\xc2\xa0", "&lt;&amp;&gt;\"&nbsp;"
	for _, name := range rawNames() {
		for _, x := range []struct {
			l    []api.Token
			want string
		}{
			{[]api.Token{start(name), text(as)}, "<" + name + ">" + as},
			{[]api.Token{selfClosed(start(name, "a", "<")), text(as), end(name)}, "<" + name + " a=\"&lt;\" />" + as + "</" + name + ">"},
			{[]api.Token{start(name), text(as), text(as)}, "<" + name + ">" + as + escaped},
			{[]api.Token{start(name), text(""), text(as)}, "<" + name + ">" + escaped},
			{[]api.Token{start(name), note(""), text(as)}, "<" + name + "><!---->" + escaped},
			{[]api.Token{start(name), doc(""), text(as)}, "<" + name + "><!doctype >" + escaped},
			{[]api.Token{start(name), end(name), text(as)}, "<" + name + "></" + name + ">" + escaped},
			{[]api.Token{start(name), {Kind: 9}, text(as)}, "<" + name + ">" + escaped},
			{[]api.Token{start(name), {Kind: -1, Name: name}, text(as)}, "<" + name + ">" + escaped},
			{[]api.Token{start(name), start("b"), text(as)}, "<" + name + "><b>" + escaped},
			{[]api.Token{start("b"), start(name), text(as)}, "<b><" + name + ">" + as},
			{[]api.Token{end(name), text(as)}, "</" + name + ">" + escaped},
			{[]api.Token{{Kind: api.TokComment, Name: name}, text(as)}, "<!---->" + escaped},
			{[]api.Token{{Kind: api.TokText, Name: name}, text(as)}, escaped},
			{[]api.Token{{Kind: 9, Name: name}, text(as)}, escaped},
			{[]api.Token{start(strings.ToUpper(name)), text(as)}, "<" + strings.ToUpper(name) + ">" + escaped},
			{[]api.Token{start(name + "s"), text(as)}, "<" + name + "s>" + escaped},
			{[]api.Token{text(as), start(name)}, escaped + "<" + name + ">"},
			{[]api.Token{start(name), text(as), start(name), text(as)}, "<" + name + ">" + as + "<" + name + ">" + as},
		} {
			if s := Write(x.l); s != x.want {
				t.Errorf("Write:\n%s%q, want %q", plain(x.l), s, x.want)
			}
			checkWritten(t, x.l)
		}
	}
	for _, name := range append(softNames(), "b", "div", "plaintext", "noscript", "") {
		if s := Write([]api.Token{start(name), text(as)}); s != "<"+name+">"+escaped {
			t.Errorf("Write: %q", s)
		}
	}
}

// The chapter: the package imports api, fold, refs and names.
func TestImports(t *testing.T) {
	f, err := parser.ParseFile(gotoken.NewFileSet(), "token.go", nil, parser.ImportsOnly)
	if err != nil {
		t.Fatal(err)
	}
	for _, x := range f.Imports {
		switch x.Path.Value {
		case `"bolting/api"`, `"bolting/fold"`, `"bolting/refs"`, `"bolting/names"`:
		default:
			t.Errorf("imports %s", x.Path.Value)
		}
	}
}
