package refs

import (
	"go/parser"
	"go/token"
	"math"
	"math/big"
	"regexp"
	"strings"
	"testing"
	"unicode/utf8"
)

const odd = "\xef\xbf\xbd"

// wantNames is the chapter's list, as bytes.
func wantNames() map[string]string {
	return map[string]string{
		"amp": "&", "lt": "<", "gt": ">", "quot": "\"", "apos": "'",
		"nbsp": "\xc2\xa0", "copy": "\xc2\xa9", "reg": "\xc2\xae", "para": "\xc2\xb6", "middot": "\xc2\xb7",
		"eacute": "\xc3\xa9", "auml": "\xc3\xa4", "ouml": "\xc3\xb6", "uuml": "\xc3\xbc", "szlig": "\xc3\x9f",
		"euro": "\xe2\x82\xac", "hellip": "\xe2\x80\xa6", "ndash": "\xe2\x80\x93", "mdash": "\xe2\x80\x94", "bull": "\xe2\x80\xa2",
		"Tab": "\t", "NewLine": "\n", "colon": ":", "lpar": "(",
	}
}

// wantCode is the chapter's Code of a number of any size.
func wantCode(n *big.Int) string {
	if n.Sign() < 1 || n.Cmp(big.NewInt(0x10ffff)) > 0 {
		return odd
	}
	r := rune(n.Int64())
	switch {
	case r >= 0xd800 && r < 0xe000:
		return odd
	case r == 13:
		return "\n"
	}
	return string(utf8.AppendRune(nil, r))
}

// decoder is a plain reading of the chapter: a pattern for all references, numbers without a bound.
func decoder() func(string) string {
	names := wantNames()
	var all []string
	for name := range names {
		all = append(all, name)
	}
	pattern := regexp.MustCompile(`&(?:(` + strings.Join(all, "|") + `)|#([0-9]+)|#[xX]([0-9a-fA-F]+));`)
	return func(s string) string {
		return pattern.ReplaceAllStringFunc(s, func(ref string) string {
			part := pattern.FindStringSubmatch(ref)
			if part[1] != "" {
				return names[part[1]]
			}
			digits, base := part[2], 10
			if digits == "" {
				digits, base = part[3], 16
			}
			n, _ := new(big.Int).SetString(digits, base)
			return wantCode(n)
		})
	}
}

func wantText(s string) string {
	return strings.NewReplacer("&", "&amp;", "<", "&lt;", ">", "&gt;", "\xc2\xa0", "&nbsp;").Replace(s)
}

func wantValue(s string) string { return strings.ReplaceAll(wantText(s), "\"", "&quot;") }

// textsOf are all texts of at most n of the pieces of from.
func textsOf(from []string, n int) []string {
	all := []string{""}
	for start := 0; n > 0; n-- {
		end := len(all)
		for _, s := range all[start:end] {
			for _, piece := range from {
				all = append(all, s+piece)
			}
		}
		start = end
	}
	return all
}

// oneByteOff are all texts that a byte more, fewer or changed makes of s.
func oneByteOff(s string) []string {
	var all []string
	for i := 0; i <= len(s); i++ {
		if i < len(s) {
			all = append(all, s[:i]+s[i+1:])
		}
		for c := range 256 {
			b := string([]byte{byte(c)})
			all = append(all, s[:i]+b+s[i:])
			if i < len(s) {
				all = append(all, s[:i]+b+s[i+1:])
			}
		}
	}
	return all
}

// checkEscaped is P3.3 and P3.4 for one text.
func checkEscaped(t *testing.T, s string) {
	t.Helper()
	text, value := Text(s), Value(s)
	if want := wantText(s); text != want {
		t.Errorf("Text(%q): %q, want %q", s, text, want)
	}
	if want := wantValue(s); value != want {
		t.Errorf("Value(%q): %q, want %q", s, value, want)
	}
	if back := Decode(text); back != s {
		t.Errorf("Decode(Text(%q)): %q", s, back)
	}
	if back := Decode(value); back != s {
		t.Errorf("Decode(Value(%q)): %q", s, back)
	}
	if strings.ContainsAny(text, "<>") || strings.ContainsAny(value, "<>\"") {
		t.Errorf("%q: left in %q or %q", s, text, value)
	}
}

// P3.1: each of the names, and all names that are one byte off.
func TestNamed(t *testing.T) {
	names := wantNames()
	decode := decoder()
	for name, want := range names {
		if u, ok := Named(name); u != want || !ok {
			t.Errorf("Named(%q): %q, %t, want %q", name, u, ok, want)
		}
		for _, other := range oneByteOff(name) {
			want, is := names[other]
			if u, ok := Named(other); u != want || ok != is {
				t.Errorf("Named(%q): %q, %t, want %q, %t", other, u, ok, want, is)
			}
			if s := "&" + other + ";"; Decode(s) != decode(s) {
				t.Errorf("Decode(%q): %q, want %q", s, Decode(s), decode(s))
			}
		}
	}
}

// P3.1: names that are none, in particular some of the standard's that the page does not have.
func TestNotNamed(t *testing.T) {
	for _, name := range []string{
		"", " ", "&", ";", "#", "#65", "#x41", "AMP", "Amp", "LT", "GT", "QUOT", "COPY", "REG", "tab", "TAB",
		"newline", "Newline", "newLine", "NBSP", "Eacute", "Auml", "Ouml", "Uuml", "Colon", "amp;", "&amp", "&amp;",
		" amp", "amp ", "am", "ampamp", "amp\x00", "rpar", "semi", "sol", "excl", "num", "nope", "aumlouml", "\xff",
	} {
		if u, ok := Named(name); u != "" || ok {
			t.Errorf("Named(%q): %q, %t", name, u, ok)
		}
	}
}

// P3.1: outcomes written out.
func TestCode(t *testing.T) {
	for _, x := range []struct {
		n    int
		want string
	}{
		{math.MinInt, odd}, {math.MinInt32, odd}, {-0x100000000 + 65, odd}, {-65, odd}, {-1, odd}, {0, odd},
		{1, "\x01"}, {9, "\t"}, {10, "\n"}, {12, "\f"}, {13, "\n"}, {14, "\x0e"}, {65, "A"}, {0x7f, "\x7f"},
		{0x80, "\xc2\x80"}, {0x8d, "\xc2\x8d"}, {160, "\xc2\xa0"}, {0x7ff, "\xdf\xbf"}, {0x800, "\xe0\xa0\x80"},
		{0xd7ff, "\xed\x9f\xbf"}, {0xd800, odd}, {0xdabc, odd}, {0xdfff, odd}, {0xe000, "\xee\x80\x80"},
		{0xfffd, odd}, {0xfffe, "\xef\xbf\xbe"}, {0xffff, "\xef\xbf\xbf"}, {0x10000, "\xf0\x90\x80\x80"},
		{0x10ffff, "\xf4\x8f\xbf\xbf"}, {0x110000, odd}, {0x7fffffff, odd}, {0x80000000, odd},
		{0x100000000, odd}, {0x100000000 + 65, odd}, {math.MaxInt, odd},
	} {
		if u := Code(x.n); u != x.want {
			t.Errorf("Code(%#x): %q, want %q", x.n, u, x.want)
		}
	}
}

// P3.1: every number of the range, and some beyond both ends.
func TestEachCode(t *testing.T) {
	for n := -300; n <= 0x110000+300; n++ {
		if u, want := Code(n), wantCode(big.NewInt(int64(n))); u != want {
			t.Errorf("Code(%#x): %q, want %q", n, u, want)
		}
	}
}

// P3.2: outcomes written out.
func TestDecode(t *testing.T) {
	zeros := strings.Repeat("0", 100)
	for _, x := range []struct{ s, want string }{
		{"", ""},
		{"a b", "a b"},
		{"&lt;&#65;&#x42;&nope;&amp;lt;", "<AB&nope;&lt;"},
		{"&", "&"}, {"&;", "&;"}, {"&&", "&&"}, {"a&", "a&"}, {"& amp;", "& amp;"}, {"&amp ;", "&amp ;"},
		{"&#", "&#"}, {"&#;", "&#;"}, {"&#x", "&#x"}, {"&#x;", "&#x;"}, {"&#X", "&#X"}, {"&#X;", "&#X;"},
		{"&&lt;", "&<"}, {"&#&lt;", "&#<"}, {"&#x&lt;", "&#x<"}, {"&#X&lt;", "&#X<"}, {"&lt&lt;", "&lt<"},
		{"&#65&lt;", "&#65<"}, {"&#x41&#65;", "&#x41A"}, {"&#X41&", "&#X41&"},
		{"&amp", "&amp"}, {"&#65", "&#65"}, {"&#x41", "&#x41"}, {"&#X4", "&#X4"}, {"&lt x;", "&lt x;"},
		{"&#65;", "A"}, {"&#x41;", "A"}, {"&#X41;", "A"}, {"&#xe4;&#xE4;&#Xe4;", "\xc3\xa4\xc3\xa4\xc3\xa4"},
		{"&#xaBcD;&#xAbCd;", "\xea\xaf\x8d\xea\xaf\x8d"}, {"&#x;41;", "&#x;41;"}, {"&#xx41;", "&#xx41;"}, {"&x41;", "&x41;"},
		{"&#6a;", "&#6a;"}, {"&#a;", "&#a;"}, {"&#x6g;", "&#x6g;"}, {"&#x6G;", "&#x6G;"}, {"&#x@;", "&#x@;"}, {"&#x`;", "&#x`;"},
		{"&#/;&#:;&#x/;&#x:;", "&#/;&#:;&#x/;&#x:;"},
		{"&#-5;", "&#-5;"}, {"&#+5;", "&#+5;"}, {"&# 5;", "&# 5;"}, {"&#5 ;", "&#5 ;"}, {"&#1_0;", "&#1_0;"}, {"&#0x41;", "&#0x41;"},
		{"&#\xd9\xa5;", "&#\xd9\xa5;"}, {"&#\xef\xbc\x95;", "&#\xef\xbc\x95;"}, {"&#5\xff;", "&#5\xff;"},
		{"&# ;", "&# ;"}, {"&#x ;", "&#x ;"}, {"&#\x00;", "&#\x00;"},
		{"&#0;", odd}, {"&#x0;", odd}, {"&#000;", odd}, {"&#1;", "\x01"}, {"&#13;&#xd;&#x0D;", "\n\n\n"}, {"\r&#10;", "\r\n"},
		{"&#xd7ff;", "\xed\x9f\xbf"}, {"&#xd800;", odd}, {"&#xDFFF;", odd}, {"&#57344;", "\xee\x80\x80"},
		{"&#1114111;", "\xf4\x8f\xbf\xbf"}, {"&#1114112;", odd}, {"&#x10FFFF;", "\xf4\x8f\xbf\xbf"}, {"&#x110000;", odd},
		{"&#9223372036854775807;", odd}, {"&#9223372036854775808;", odd}, {"&#18446744073709551681;", odd},
		{"&#x7fffffffffffffff;", odd}, {"&#x8000000000000000;", odd}, {"&#x10000000000000041;", odd}, {"&#4294967361;", odd},
		{"&#" + zeros + "65;", "A"}, {"&#x" + zeros + "41;", "A"}, {"&#" + zeros + ";", odd},
		{"&#" + zeros + "18446744073709551681;", odd}, {"&#x" + zeros + "10000000000000041;", odd}, {"&#1" + zeros + ";", odd}, {"&#x1" + zeros + ";", odd},
		{"&#1" + zeros, "&#1" + zeros}, {"&#1" + zeros + "a;", "&#1" + zeros + "a;"},
		{"&amp;amp;", "&amp;"}, {"&amp;amp;amp;", "&amp;amp;"}, {"&amp;#65;", "&#65;"}, {"&#38;lt;", "&lt;"}, {"&#x26;#38;lt;", "&#38;lt;"},
		{"&&amp;lt;", "&&lt;"}, {"&&#108;t;", "&lt;"}, {"&l&#116;;", "&lt;"}, {"&lt&#59;", "&lt;"}, {"&#6&#53;;", "&#65;"}, {"&&#35;65;", "&#65;"},
		{"\xff&lt;\xc2&nbsp;\xa0", "\xff<\xc2\xc2\xa0\xa0"}, {"&l\xfft;", "&l\xfft;"}, {"\xc2\xa0\xc2\xe2\x82", "\xc2\xa0\xc2\xe2\x82"},
		{"\x00\r\n&#65;\x00", "\x00\r\nA\x00"}, {"a;b&gt;;", "a;b>;"},
	} {
		if u := Decode(x.s); u != x.want {
			t.Errorf("Decode(%q): %q, want %q", x.s, u, x.want)
		}
	}
}

// P3.2: each name with what may stand at both ends, and each without its end.
func TestEachReference(t *testing.T) {
	for name, want := range wantNames() {
		for _, x := range []struct{ s, want string }{
			{"&" + name + ";", want},
			{"&" + name, "&" + name},
			{name + ";", name + ";"},
			{"&#" + name + ";", "&#" + name + ";"},
			{"&&" + name + ";;", "&" + want + ";"},
			{"\xff&" + name + ";\xff", "\xff" + want + "\xff"},
			{"&amp;" + name + ";", "&" + name + ";"},
			{"&" + name + "&" + name + ";", "&" + name + want},
			{"&" + name + ";&" + name + ";", want + want},
		} {
			if u := Decode(x.s); u != x.want {
				t.Errorf("Decode(%q): %q, want %q", x.s, u, x.want)
			}
		}
	}
}

// P3.2: each byte as a digit of both kinds, alone and behind or ahead of one.
func TestEachDigit(t *testing.T) {
	decode := decoder()
	for c := range 256 {
		b := string([]byte{byte(c)})
		for _, start := range []string{"&#", "&#x", "&#X"} {
			for _, digits := range []string{b, "4" + b, b + "4", "4" + b + "4"} {
				s := start + digits + ";"
				if u, want := Decode(s), decode(s); u != want {
					t.Errorf("Decode(%q): %q, want %q", s, u, want)
				}
			}
		}
	}
}

// P3.2: all texts of some pieces.
func TestAllDecoded(t *testing.T) {
	decode := decoder()
	texts := textsOf([]string{"&", "#", "x", "X", "0", "6", "b", ";", "lt", "\xc2"}, 5)
	texts = append(texts, textsOf([]string{"&", "#", "x", "41", ";"}, 7)...)
	texts = append(texts, textsOf([]string{"&amp;", "&#38;", "&", "amp", "lt", ";", "#", "65"}, 5)...)
	for _, s := range texts {
		if u, want := Decode(s), decode(s); u != want {
			t.Errorf("Decode(%q): %q, want %q", s, u, want)
		}
	}
}

// P3.3: outcomes written out.
func TestTextAndValue(t *testing.T) {
	for _, x := range []struct{ s, text, value string }{
		{"", "", ""},
		{"a'b;#=/ \t\n\r\x00", "a'b;#=/ \t\n\r\x00", "a'b;#=/ \t\n\r\x00"},
		{"\"<", "\"&lt;", "&quot;&lt;"},
		{"<a b=\"c\">&", "&lt;a b=\"c\"&gt;&amp;", "&lt;a b=&quot;c&quot;&gt;&amp;"},
		{"&amp;&quot;&nbsp;", "&amp;amp;&amp;quot;&amp;nbsp;", "&amp;amp;&amp;quot;&amp;nbsp;"},
		{"&#60;", "&amp;#60;", "&amp;#60;"},
		{"\xc2\xa0", "&nbsp;", "&nbsp;"},
		{"\xc2\xa0\xc2\xa0", "&nbsp;&nbsp;", "&nbsp;&nbsp;"},
		{"\xc2\xc2\xa0\xa0", "\xc2&nbsp;\xa0", "\xc2&nbsp;\xa0"},
		{"\xc2", "\xc2", "\xc2"},
		{"\xa0", "\xa0", "\xa0"},
		{"\xc2<\xa0", "\xc2&lt;\xa0", "\xc2&lt;\xa0"},
		{"\xc3\xa0\xc2\xa1\xc2\x9f", "\xc3\xa0\xc2\xa1\xc2\x9f", "\xc3\xa0\xc2\xa1\xc2\x9f"},
		{"\xe2\x82\xc2\xa0", "\xe2\x82&nbsp;", "\xe2\x82&nbsp;"},
		{"\xe1\x82\xa0\xe2\x80\xaf", "\xe1\x82\xa0\xe2\x80\xaf", "\xe1\x82\xa0\xe2\x80\xaf"},
		{"\xff\xfe" + odd, "\xff\xfe" + odd, "\xff\xfe" + odd},
		{"\xc3\xa4\xc2\xa9\xe2\x82\xac", "\xc3\xa4\xc2\xa9\xe2\x82\xac", "\xc3\xa4\xc2\xa9\xe2\x82\xac"},
	} {
		if u := Text(x.s); u != x.text {
			t.Errorf("Text(%q): %q, want %q", x.s, u, x.text)
		}
		if u := Value(x.s); u != x.value {
			t.Errorf("Value(%q): %q, want %q", x.s, u, x.value)
		}
		checkEscaped(t, x.s)
	}
}

// P3.3, P3.4: all pairs of bytes, and all texts of up to five bytes that mean something here.
func TestAllEscaped(t *testing.T) {
	for a := range 256 {
		for b := range 256 {
			checkEscaped(t, string([]byte{byte(a), byte(b)}))
			checkEscaped(t, string([]byte{'<', byte(a), byte(b), '"'}))
		}
	}
	for _, s := range textsOf([]string{"&", "<", ">", "\"", "'", "\xc2", "\xa0", ";", "a", "\xe2"}, 5) {
		checkEscaped(t, s)
	}
	for _, s := range textsOf([]string{"&", "&amp;", "&quot;", "amp", "#", "38", ";", "\xc2\xa0"}, 4) {
		checkEscaped(t, s)
	}
}

// P3.4: of two texts, and of two that divide the character 160, which are the only ones that are left out.
func TestJoined(t *testing.T) {
	texts := textsOf([]string{"&", "<", "\"", "\xc2", "\xa0", "lt;", "a"}, 3)
	for _, a := range texts {
		for _, b := range texts {
			divided := strings.HasSuffix(a, "\xc2") && strings.HasPrefix(b, "\xa0")
			if (Text(a+b) == Text(a)+Text(b)) == divided {
				t.Errorf("Text(%q + %q): %q", a, b, Text(a+b))
			}
			if (Value(a+b) == Value(a)+Value(b)) == divided {
				t.Errorf("Value(%q + %q): %q", a, b, Value(a+b))
			}
		}
	}
}

// P3.2 to P3.4: long texts, on which a function that takes time by the square would not end in time.
func TestLong(t *testing.T) {
	const n = 1 << 20
	for _, x := range []struct{ s, want string }{
		{"&", "&"}, {"&#", "&#"}, {"&#x", "&#x"}, {"&lt", "&lt"}, {"&#1", "&#1"}, {"&#xf", "&#xf"},
		{"&lt;", "<"}, {"&amp;lt;", "&lt;"}, {"a;", "a;"}, {"\xff&#0;", "\xff" + odd},
	} {
		if Decode(strings.Repeat(x.s, n)) != strings.Repeat(x.want, n) {
			t.Errorf("Decode of many %q", x.s)
		}
	}
	for _, start := range []string{"&", "&#", "&#x"} {
		digits := strings.Repeat("9", n)
		if Decode(start+digits) != start+digits || Decode(start+digits+"g;") != start+digits+"g;" {
			t.Errorf("Decode of %q with many digits and no end", start)
		}
	}
	if Decode("&#"+strings.Repeat("9", n)+";&#x"+strings.Repeat("0", n)+"41;") != odd+"A" {
		t.Error("Decode of a number with many digits")
	}
	// Held against each other here, since checkEscaped would print all of it.
	s := strings.Repeat("a<b>&\"\xc2\xa0\xc2", n)
	text, value := Text(s), Value(s)
	if text != wantText(s) || value != wantValue(s) || Decode(text) != s || Decode(value) != s {
		t.Error("Text, Value")
	}
}

// The chapter: the package imports nothing.
func TestImportsNothing(t *testing.T) {
	f, err := parser.ParseFile(token.NewFileSet(), "refs.go", nil, parser.ImportsOnly)
	if err != nil {
		t.Fatal(err)
	}
	for _, x := range f.Imports {
		t.Errorf("imports %s", x.Path.Value)
	}
}
