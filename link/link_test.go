package link

import (
	"go/parser"
	"go/token"
	"strings"
	"testing"
)

const (
	letters = "ABCDEFGHIJKLMNOPQRSTUVWXYZabcdefghijklmnopqrstuvwxyz"
	// others are what may stand behind the first letter of a scheme besides letters.
	others = "0123456789+-."
	// anywhere are the bytes that are ignored wherever they stand.
	anywhere = "\x09\x0a\x0d"
)

func one(c int) string { return string([]byte{byte(c)}) }

// edgeBytes are the bytes that are ignored at both ends.
func edgeBytes() string {
	var b strings.Builder
	for c := range 33 {
		b.WriteByte(byte(c))
	}
	return b.String()
}

// P9.1: outcomes written out.
func TestStrip(t *testing.T) {
	all := edgeBytes()
	for _, x := range []struct{ s, want string }{
		{"", ""},
		{" ", ""},
		{"\x00", ""},
		{"\t\n\r", ""},
		{" \x00\x1f", ""},
		{all, ""},
		{all + all, ""},
		{all + "a" + all, "a"},
		{"a", "a"},
		{" a b ", "a b"},
		{"a\t\n\rb", "ab"},
		{"\ta", "a"},
		{"a\r", "a"},
		{"a\x00b", "a\x00b"},
		{"a\v\fb", "a\v\fb"},
		{"a \t b", "a  b"},
		{" \ta\t \tb\t ", "a b"},
		{"a\t\t\tb\n\nc", "abc"},
		{"a" + all + "b", "a\x00\x01\x02\x03\x04\x05\x06\x07\x08\x0b\x0c\x0e\x0f\x10\x11\x12\x13\x14\x15\x16\x17\x18\x19\x1a\x1b\x1c\x1d\x1e\x1f b"},
		{"!", "!"},
		{"\x7f", "\x7f"},
		{"\x80a\xff", "\x80a\xff"},
		{"\xc2\xa0a\xc2\x85", "\xc2\xa0a\xc2\x85"},
		{"\xe2\x80\xa8", "\xe2\x80\xa8"},
		{" Java&#10;%09 ", "Java&#10;%09"},
	} {
		if u := Strip(x.s); u != x.want || Strip(u) != u {
			t.Errorf("Strip(%q): %q, want %q", x.s, u, x.want)
		}
	}
}

// P9.1: each byte at the beginning, at the end and within, alone and more than once.
func TestEachByteStripped(t *testing.T) {
	for c := range 256 {
		b := one(c)
		edge, within := b, b
		if c <= 32 {
			edge = ""
		}
		if c == 9 || c == 10 || c == 13 {
			within = ""
		}
		for s, want := range map[string]string{
			b:                       edge,
			b + b:                   edge + edge,
			b + "p":                 edge + "p",
			"p" + b:                 "p" + edge,
			"p" + b + "q":           "p" + within + "q",
			b + b + "p":             edge + edge + "p",
			"p" + b + b:             "p" + edge + edge,
			"p" + b + b + "q":       "p" + within + within + "q",
			b + "p" + b + "q" + b:   edge + "p" + within + "q" + edge,
			" " + b + "p" + b + " ": edge + "p" + edge,
			"\x00" + b + "\x1f":     edge,
		} {
			if u := Strip(s); u != want {
				t.Errorf("Strip(%q): %q, want %q", s, u, want)
			}
		}
	}
}

// P9.1, P9.2: outcomes written out.
func TestScheme(t *testing.T) {
	for s, want := range map[string]string{
		"a:":                              "a",
		"Z:x":                             "z",
		"http://a/b":                      "http",
		"HTTPS:":                          "https",
		"A+b-1.:x":                        "a+b-1.",
		"a0123456789+-.:":                 "a0123456789+-.",
		"a.:b":                            "a.",
		"a-b:":                            "a-b",
		"x:y:z":                           "x",
		"x::":                             "x",
		"x:/?#":                           "x",
		"x:\xff":                          "x",
		letters + ":":                     strings.Repeat("abcdefghijklmnopqrstuvwxyz", 2),
		"javascript:":                     "javascript",
		"JavaScript:x":                    "javascript",
		"javascript://a":                  "javascript",
		" JaVa\tScript:x":                 "javascript",
		" java\nscript:x":                 "javascript",
		"\x00\x20javascript:x":            "javascript",
		"java\tscr\nipt\r:":               "javascript",
		"\x01\x02j\ra\rv\ra\rscript\n\t:": "javascript",
		"javascript\t:":                   "javascript",
		"javascript:\t":                   "javascript",
		"javascript1:":                    "javascript1",
		"javascript.:":                    "javascript.",
		"javascripts:x":                   "javascripts",
		"javascrip:x":                     "javascrip",
		"avascript:x":                     "avascript",
		"xjavascript:x":                   "xjavascript",
		"java-script:":                    "java-script",
		"livescript:":                     "livescript",
		"data:javascript:":                "data",
		"view-source:javascript:x":        "view-source",
	} {
		if u, is := Scheme(s); u != want || !is {
			t.Errorf("Scheme(%q): %q, %t, want %q", s, u, is, want)
		}
		if Script(s) != (want == "javascript") {
			t.Errorf("Script(%q): %t", s, want != "javascript")
		}
	}
}

// P9.1, P9.2: texts without a scheme.
func TestNoScheme(t *testing.T) {
	for _, s := range []string{
		"", " ", "\t", edgeBytes(), "\x7f",
		":", "::", ":a", ":javascript:", " :a:", "\t:",
		"a", "javascript", " javascript ", "javascript\t", "javascript;", "javascript%3a", "javascript&#58;x", "javascript\xef\xbc\x9ax",
		"1a:", "+a:", "-a:", ".a:", "0:", "+:", "-:", ".:", "//a:b", "1javascript:",
		"a/b:c", "a?b:c", "a#b:c", "a b:c", "a%b:c", "a_b:", "a&b:", "a@b:c", "a\x00b:", "a\x7fb:", "a\vb:", "a\fb:",
		"/javascript:", "?javascript:", "#javascript:", "./javascript:", "java script:", "javascript :x", "java\x00script:", "javascript\x00:", "java\x0cscript:", "java%0ascript:", "java%73cript:", "%6aavascript:",
		"\xc3\xa4:", "a\xc3\xa4:", "a\x80:", "a\xff:", "\xff:", "\xc2\xa0javascript:", "java\xc2\xadscript:", "\xef\xbb\xbfjavascript:", "javascr\xc4\xb1pt:", "java\xc5\xbfcript:",
	} {
		if u, is := Scheme(s); u != "" || is {
			t.Errorf("Scheme(%q): %q, %t", s, u, is)
		}
		if Script(s) {
			t.Errorf("Script(%q)", s)
		}
		if u, is := Source(s); u != "" || is {
			t.Errorf("Source(%q): %q, %t", s, u, is)
		}
	}
}

// P9.1: each byte at each place of a scheme.
func TestEachByteOfScheme(t *testing.T) {
	for c := range 256 {
		b := one(c)
		low := strings.ToLower(b)
		first := strings.Contains(letters, b)
		behind := first || strings.Contains(others, b)
		edge, within := c <= 32, strings.Contains(anywhere, b)
		for s, want := range map[string]string{
			b + ":x":        pick(first, low),
			b + "p:x":       pick(first, low+"p") + pick(edge, "p"),
			"p" + b + ":x":  pick(behind, "p"+low) + pick(within || c == ':', "p"),
			"p" + b + "q:x": pick(behind, "p"+low+"q") + pick(within, "pq") + pick(c == ':', "p"),
			"p:" + b + ":x": "p",
		} {
			if u, is := Scheme(s); u != want || is != (want != "") {
				t.Errorf("Scheme(%q): %q, %t, want %q", s, u, is, want)
			}
		}
	}
}

// pick is s where a thing holds.
func pick(is bool, s string) string {
	if is {
		return s
	}
	return ""
}

// P9.2: javascript in great and small letters in all ways, and with each letter taken away, doubled or changed.
func TestScript(t *testing.T) {
	const small, great = "javascript", "JAVASCRIPT"
	for which := range 1 << len(small) {
		name := []byte(small)
		for i := range name {
			if which>>i&1 == 1 {
				name[i] = great[i]
			}
		}
		s := string(name) + ":a%42C"
		if u, is := Source(s); u != "aBC" || !is || !Script(s) {
			t.Errorf("%q: %q, %t, %t", s, u, is, Script(s))
		}
	}
	for i := range small {
		for _, name := range []string{small[:i] + small[i+1:], small[:i+1] + small[i:], small[:i] + "z" + small[i+1:], small[:i] + "-" + small[i:], small[:i] + " " + small[i+1:]} {
			s := name + ":x"
			if u, is := Source(s); u != "" || is || Script(s) {
				t.Errorf("%q: %q, %t, %t", s, u, is, Script(s))
			}
		}
	}
}

// P9.2: outcomes written out.
func TestSource(t *testing.T) {
	for s, want := range map[string]string{
		"javascript:":                      "",
		"javascript::":                     ":",
		"javascript:a:b":                   "a:b",
		"javascript:javascript:x":          "javascript:x",
		"javascript:a%20b":                 "a b",
		"javascript:%":                     "%",
		"javascript:%4":                    "%4",
		"javascript:%2541":                 "%41",
		" JAVASCRIPT:%41%2b%2B ":           "A++",
		"java\nscript:a\nb":                "ab",
		"javascript:a\x00b c":              "a\x00b c",
		"javascript: x ":                   " x",
		"javascript: \t\x00":               "",
		"javascript:%20x%20":               " x ",
		"javascript:%0aa%09%0D":            "\na\t\r",
		"javascript:%4\t1":                 "A",
		"javascript:%\r\n41":               "A",
		"javascript:%4 ":                   "%4",
		"javascript:%3a%3A":                "::",
		"javascript:AlErT(1)//?#/\xc3\xa4": "AlErT(1)//?#/\xc3\xa4",
		"javascript:%c3%A4%ff%00":          "\xc3\xa4\xff\x00",
		"\x1f\tjavascript\r:\nx\x01":       "x",
	} {
		if u, is := Source(s); u != want || !is {
			t.Errorf("Source(%q): %q, %t, want %q", s, u, is, want)
		}
		if !Script(s) {
			t.Errorf("Script(%q): false", s)
		}
	}
	for _, s := range []string{"https:x", "javascripts:x", "javascrip:x", "data:javascript:x", "a:", "x:javascript:%41", "javascript+x:y"} {
		if u, is := Source(s); u != "" || is {
			t.Errorf("Source(%q): %q, %t", s, u, is)
		}
	}
}

// P9.2: outcomes written out.
func TestPercent(t *testing.T) {
	for s, want := range map[string]string{
		"":              "",
		"a":             "a",
		"%":             "%",
		"a%":            "a%",
		"%%":            "%%",
		"%%%":           "%%%",
		"%4":            "%4",
		"a%4":           "a%4",
		"%41":           "A",
		"a%41b":         "aAb",
		"%4142":         "A42",
		"%41%42":        "AB",
		"%%41":          "%A",
		"%%%41":         "%%A",
		"%4%41":         "%4A",
		"%41%":          "A%",
		"%41%4":         "A%4",
		"%4g":           "%4g",
		"%g4":           "%g4",
		"%G1":           "%G1",
		"%gg":           "%gg",
		"%4 1":          "%4 1",
		"% 41":          "% 41",
		"%-1":           "%-1",
		"%+1":           "%+1",
		"%0x41":         "%0x41",
		"%x41":          "%x41",
		"%u0041":        "%u0041",
		"%4\xff":        "%4\xff",
		"%\xff4":        "%\xff4",
		"%25":           "%",
		"%2541":         "%41",
		"%252541":       "%2541",
		"%25%34%31":     "%41",
		"%%34%31":       "%41",
		"%%25":          "%%",
		"%4%31":         "%41",
		"a%2525":        "a%25",
		"%00":           "\x00",
		"%0a%0A":        "\n\n",
		"%ff%00":        "\xff\x00",
		"%fF%Ff%FF":     "\xff\xff\xff",
		"%80%C3%a4":     "\x80\xc3\xa4",
		"%aB%Cd%eF":     "\xab\xcd\xef",
		"%09%20":        "\t ",
		" %41\t%42 ":    " A\tB ",
		"\xff%41\x80":   "\xffA\x80",
		"+":             "+",
		"javascript%3A": "javascript:",
	} {
		if u := Percent(s); u != want {
			t.Errorf("Percent(%q): %q, want %q", s, u, want)
		}
	}
}

// P9.2: a '%' with each pair of bytes behind it, at the end and within.
func TestEachMark(t *testing.T) {
	const small, great = "0123456789abcdef", "0123456789ABCDEF"
	value := func(c int) int {
		return max(strings.IndexByte(small, byte(c)), strings.IndexByte(great, byte(c)))
	}
	for high := range 256 {
		for low := range 256 {
			s := "%" + one(high) + one(low)
			want := s
			if value(high) >= 0 && value(low) >= 0 {
				want = one(16*value(high) + value(low))
			}
			if u := Percent(s); u != want {
				t.Errorf("Percent(%q): %q, want %q", s, u, want)
			}
			// With 'z', which no digit is, so that the '%' alone begins a mark.
			if u := Percent("z" + s + "z"); u != "z"+want+"z" {
				t.Errorf("Percent(%q): %q, want %q", "z"+s+"z", u, "z"+want+"z")
			}
		}
	}
}

// addresses are some with a scheme, some without, and each with the scheme that it has.
func addresses() map[string]string {
	return map[string]string{
		"":                   "",
		":":                  "",
		"a":                  "",
		"a:":                 "a",
		"ab:c:d":             "ab",
		"1a:b":               "",
		"a/b:c":              "",
		"a b:c":              "",
		"x+1-.:y z":          "x+1-.",
		"\xc3\xa4:":          "",
		"javascript:a%41(b)": "javascript",
		"javascripts:":       "javascripts",
		"java script:":       "",
	}
}

// checkScheme tells whether s has this scheme, or none where it is empty.
func checkScheme(t *testing.T, s, want string) {
	t.Helper()
	if u, is := Scheme(s); u != want || is != (want != "") {
		t.Errorf("Scheme(%q): %q, %t, want %q", s, u, is, want)
	}
	if _, is := Source(s); Script(s) != (want == "javascript") || is != Script(s) {
		t.Errorf("Script(%q): %t, Source %t", s, Script(s), is)
	}
}

// P9.3: ignored bytes that are inserted make no difference: those of both ends there, and those of everywhere at each place.
func TestInserted(t *testing.T) {
	edges := edgeBytes()
	for s, want := range addresses() {
		checkScheme(t, s, want)
		source, _ := Source(s)
		for _, a := range edges {
			for _, b := range edges {
				checkScheme(t, string(a)+string(b)+s, want)
				checkScheme(t, s+string(a)+string(b), want)
				checkScheme(t, string(a)+s+string(b), want)
			}
		}
		for i := 0; i <= len(s); i++ {
			for _, more := range textsOf([]string{"\t", "\n", "\r"}, 3) {
				with := s[:i] + more + s[i:]
				checkScheme(t, with, want)
				if u, _ := Source(with); u != source {
					t.Errorf("Source(%q): %q, want %q", with, u, source)
				}
				checkScheme(t, edges+with+edges, want)
			}
		}
		checkScheme(t, strings.Join(strings.Split(s, ""), "\t\r\n"), want)
	}
}

// P9.3: bytes that are ignored at both ends alone make a difference within a scheme.
func TestNotIgnoredWithin(t *testing.T) {
	for _, c := range edgeBytes() {
		if strings.ContainsRune(anywhere, c) {
			continue
		}
		const s = "javascript:"
		for i := 1; i < len(s); i++ {
			checkScheme(t, s[:i]+string(c)+s[i:], "")
		}
		checkScheme(t, s+string(c)+"x", "javascript")
	}
}

// P9.3: the case of letters makes no difference: of each one, and of all.
func TestCase(t *testing.T) {
	for s, want := range addresses() {
		checkScheme(t, strings.ToUpper(s), want)
		checkScheme(t, strings.ToLower(s), want)
		for i := range len(s) {
			checkScheme(t, s[:i]+strings.ToUpper(s[i:i+1])+s[i+1:], want)
			checkScheme(t, s[:i]+strings.ToUpper(s[i:]), want)
		}
	}
}

// P9.1, P9.2: long texts, on which a function that takes time by the square would not end in time.
func TestLong(t *testing.T) {
	const n = 1 << 20
	edges := strings.Repeat(" \t\x00", n)
	if Strip(edges) != "" || Strip(edges+"a\nb"+edges) != "ab" || Strip("a"+edges+"b") != "a"+strings.Repeat(" \x00", n)+"b" {
		t.Error("Strip")
	}
	if u, is := Scheme(strings.Repeat("Ab\r1", n) + ":x"); u != strings.Repeat("ab1", n) || !is {
		t.Error("Scheme")
	}
	if u, is := Scheme(strings.Repeat("a", n)); u != "" || is {
		t.Error("Scheme of none")
	}
	s := "javascript:" + strings.Repeat("%2541%", n)
	if u, is := Source(s); u != strings.Repeat("%41%", n) || !is || !Script(s) {
		t.Error("Source")
	}
	if Percent(strings.Repeat("%", n)) != strings.Repeat("%", n) || Percent(strings.Repeat("%ff", n)) != strings.Repeat("\xff", n) {
		t.Error("Percent")
	}
}

// The chapter: the package imports fold.
func TestImports(t *testing.T) {
	f, err := parser.ParseFile(token.NewFileSet(), "link.go", nil, parser.ImportsOnly)
	if err != nil {
		t.Fatal(err)
	}
	for _, x := range f.Imports {
		if x.Path.Value != `"bolting/fold"` {
			t.Errorf("imports %s", x.Path.Value)
		}
	}
}
