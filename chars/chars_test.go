package chars

import (
	"go/parser"
	"go/token"
	"math"
	"strings"
	"testing"
)

const odd = "\xef\xbf\xbd"

// span is a line of the chapter's list: first bytes, the second bytes that may follow them, how many bytes in all.
type span struct {
	first, last, low, high byte
	size                   int
}

func spans() []span {
	return []span{
		{0x00, 0x7f, 0, 0, 1},
		{0xc2, 0xdf, 0x80, 0xbf, 2},
		{0xe0, 0xe0, 0xa0, 0xbf, 3},
		{0xe1, 0xec, 0x80, 0xbf, 3},
		{0xed, 0xed, 0x80, 0x9f, 3},
		{0xee, 0xef, 0x80, 0xbf, 3},
		{0xf0, 0xf0, 0x90, 0xbf, 4},
		{0xf1, 0xf3, 0x80, 0xbf, 4},
		{0xf4, 0xf4, 0x80, 0x8f, 4},
	}
}

func spanOf(c byte) (span, bool) {
	for _, p := range spans() {
		if p.first <= c && c <= p.last {
			return p, true
		}
	}
	return span{}, false
}

// sizeAt is how many bytes the character at the start of s has; 0: the first byte is invalid.
func sizeAt(s string) int {
	p, ok := spanOf(s[0])
	if !ok || len(s) < p.size {
		return 0
	}
	for k := 1; k < p.size; k++ {
		if s[k] < 0x80 || s[k] > 0xbf {
			return 0
		}
	}
	if p.size > 1 && (s[1] < p.low || s[1] > p.high) {
		return 0
	}
	return p.size
}

// divide is what the chapter's words make of s, written without the language's own decoding: its pieces, and which are invalid.
func divide(s string) (pieces []string, invalid []bool) {
	for len(s) > 0 {
		n := sizeAt(s)
		invalid = append(invalid, n == 0)
		n = max(n, 1)
		pieces = append(pieces, s[:n])
		s = s[n:]
	}
	return pieces, invalid
}

func wantDecode(pieces []string, invalid []bool) string {
	var b strings.Builder
	for i, p := range pieces {
		if invalid[i] || p == "\x00" {
			p = odd
		}
		b.WriteString(p)
	}
	return b.String()
}

func wantLines(s string) string {
	return strings.ReplaceAll(strings.ReplaceAll(s, "\r\n", "\n"), "\r", "\n")
}

// checkAll holds every function against the chapter's words, for one text.
func checkAll(t *testing.T, s string) {
	t.Helper()
	pieces, invalid := divide(s)
	decoded := wantDecode(pieces, invalid)
	right := true
	for _, x := range invalid {
		right = right && !x
	}
	if d := Decode(s); d != decoded {
		t.Errorf("Decode(%q): %q, want %q", s, d, decoded)
	}
	if Right(s) != right {
		t.Errorf("Right(%q): %t", s, !right)
	}
	if n := Count(s); n != len(pieces) {
		t.Errorf("Count(%q): %d, want %d", s, n, len(pieces))
	}
	if l := Lines(s); l != wantLines(s) {
		t.Errorf("Lines(%q): %q, want %q", s, l, wantLines(s))
	}
	if r := Ready(s); r != wantLines(decoded) {
		t.Errorf("Ready(%q): %q, want %q", s, r, wantLines(decoded))
	}
	checkSamples(t, s, pieces)
	checkProperties(t, s)
}

func checkSamples(t *testing.T, s string, pieces []string) {
	t.Helper()
	for n := -1; n <= len(pieces)+1; n++ {
		k := min(max(n, 0), len(pieces))
		if u, want := Sample(s, n), strings.Join(pieces[:k], ""); u != want {
			t.Errorf("Sample(%q, %d): %q, want %q", s, n, u, want)
		}
	}
}

// checkProperties is P1.4, but for what it says of two texts.
func checkProperties(t *testing.T, s string) {
	t.Helper()
	d, l, r := Decode(s), Lines(s), Ready(s)
	if !Right(d) || Decode(d) != d {
		t.Errorf("decoded again: %q: %q", s, d)
	}
	if Lines(l) != l || Right(s) && !Right(l) {
		t.Errorf("lines again: %q: %q", s, l)
	}
	if !Right(r) || Ready(r) != r {
		t.Errorf("ready again: %q: %q", s, r)
	}
	if Right(s) && !strings.ContainsAny(s, "\x00\r") && r != s {
		t.Errorf("ready changed %q: %q", s, r)
	}
}

// edgeBytes are the bytes at which the chapter's list changes, and those that the promises name.
func edgeBytes() []byte {
	return []byte{0x00, '\n', '\r', 'a', 0x7f, 0x80, 0x8f, 0x90, 0x9f, 0xa0, 0xbf, 0xc0, 0xc1, 0xc2, 0xdf, 0xe0, 0xe1, 0xec, 0xed, 0xee, 0xef, 0xf0, 0xf1, 0xf3, 0xf4, 0xf5, 0xff}
}

// P1.1, P1.3: each first byte with each second byte, cut short and with what a whole character needs behind them.
func TestEachPair(t *testing.T) {
	for a := range 256 {
		checkAll(t, string([]byte{byte(a)}))
		for b := range 256 {
			two := string([]byte{byte(a), byte(b)})
			for _, tail := range []string{"", "\x80", "\xbf\x80", "\x80\xbf\x80", "z"} {
				checkAll(t, two+tail)
			}
		}
	}
}

// P1.1 to P1.4: all texts of up to four bytes at the edges.
func TestEdges(t *testing.T) {
	checkAll(t, "")
	for _, a := range edgeBytes() {
		for _, b := range edgeBytes() {
			for _, c := range edgeBytes() {
				checkAll(t, string([]byte{a, b, c}))
				for _, d := range edgeBytes() {
					checkAll(t, string([]byte{a, b, c, d}))
				}
			}
		}
	}
}

// P1.1: outcomes written out, so that nothing hangs on divide alone.
func TestDecode(t *testing.T) {
	for _, x := range []struct {
		s, want string
		right   bool
		count   int
	}{
		{"", "", true, 0},
		{"abc", "abc", true, 3},
		{"a\xffb", "a" + odd + "b", false, 3},
		{"h\xc3\xa4\xc3\x9f", "h\xc3\xa4\xc3\x9f", true, 3},
		{"\x00", odd, true, 1},
		{"a\x00\x00", "a" + odd + odd, true, 3},
		{odd, odd, true, 1},
		{odd + "\xef\xbf", odd + odd + odd, false, 3},
		{"\xef\xbf" + odd, odd + odd + odd, false, 3},
		{"\xef\xbb\xbfx", "\xef\xbb\xbfx", true, 2},
		{"\x80", odd, false, 1},
		{"\xc0\x80", odd + odd, false, 2},
		{"\xc1\xbf", odd + odd, false, 2},
		{"\xc2\x80\xdf\xbf", "\xc2\x80\xdf\xbf", true, 2},
		{"\xc3", odd, false, 1},
		{"\xc3a", odd + "a", false, 2},
		{"\xe0\x9f\xbf", odd + odd + odd, false, 3},
		{"\xe0\xa0\x80", "\xe0\xa0\x80", true, 1},
		{"\xe2\x82", odd + odd, false, 2},
		{"\xe2\x82\xe2\x82\xac", odd + odd + "\xe2\x82\xac", false, 3},
		{"\xed\x9f\xbf", "\xed\x9f\xbf", true, 1},
		{"\xed\xa0\x80", odd + odd + odd, false, 3},
		{"\xf0\x8f\xbf\xbf", odd + odd + odd + odd, false, 4},
		{"\xf0\x90\x80\x80", "\xf0\x90\x80\x80", true, 1},
		{"\xf0\x9f\x98", odd + odd + odd, false, 3},
		{"\xf4\x8f\xbf\xbf", "\xf4\x8f\xbf\xbf", true, 1},
		{"\xf4\x90\x80\x80", odd + odd + odd + odd, false, 4},
		{"\xf5\x80\x80\x80", odd + odd + odd + odd, false, 4},
	} {
		if d := Decode(x.s); d != x.want {
			t.Errorf("Decode(%q): %q, want %q", x.s, d, x.want)
		}
		if r := Right(x.s); r != x.right {
			t.Errorf("Right(%q): %t", x.s, r)
		}
		if n := Count(x.s); n != x.count {
			t.Errorf("Count(%q): %d, want %d", x.s, n, x.count)
		}
	}
}

// P1.2: Lines leaves all but bytes 13 as it is, Ready decodes as well.
func TestLines(t *testing.T) {
	for _, x := range []struct{ s, lines, ready string }{
		{"", "", ""},
		{"a b", "a b", "a b"},
		{"\n", "\n", "\n"},
		{"\r", "\n", "\n"},
		{"\r\n", "\n", "\n"},
		{"\n\r", "\n\n", "\n\n"},
		{"\r\n\r", "\n\n", "\n\n"},
		{"\r\r\n\n", "\n\n\n", "\n\n\n"},
		{"a\r\nb\rc\n", "a\nb\nc\n", "a\nb\nc\n"},
		{"\r\x00\n", "\n\x00\n", "\n" + odd + "\n"},
		{"\r\xff\r\n", "\n\xff\n", "\n" + odd + "\n"},
		{"\xe2\x82\r", "\xe2\x82\n", odd + odd + "\n"},
		{"\xc3\xa4\r\xc3", "\xc3\xa4\n\xc3", "\xc3\xa4\n" + odd},
	} {
		if l := Lines(x.s); l != x.lines {
			t.Errorf("Lines(%q): %q, want %q", x.s, l, x.lines)
		}
		if r := Ready(x.s); r != x.ready {
			t.Errorf("Ready(%q): %q, want %q", x.s, r, x.ready)
		}
	}
}

// P1.3: characters and invalid bytes alike, none below 1, all beyond the end.
func TestSample(t *testing.T) {
	for _, x := range []struct {
		s    string
		n    int
		want string
	}{
		{"h\xc3\xa4\xc3\x9f", 2, "h\xc3\xa4"},
		{"abc", 1, "a"},
		{"abc", 3, "abc"},
		{"abc", 4, "abc"},
		{"abc", math.MaxInt, "abc"},
		{"abc", 0, ""},
		{"abc", -1, ""},
		{"abc", math.MinInt, ""},
		{"", 0, ""},
		{"", 1, ""},
		{"", math.MinInt, ""},
		{"\xff\xfea", 2, "\xff\xfe"},
		{"\xe2\x82a", 1, "\xe2"},
		{"\xe2\x82a", 2, "\xe2\x82"},
		{"\xf0\x9f\x98\x80\x00\r\n", 2, "\xf0\x9f\x98\x80\x00"},
		{"\xf0\x9f\x98\x80\x00\r\n", 3, "\xf0\x9f\x98\x80\x00\r"},
	} {
		if u := Sample(x.s, x.n); u != x.want {
			t.Errorf("Sample(%q, %d): %q, want %q", x.s, x.n, u, x.want)
		}
	}
}

// P1.4: of two texts without invalid bytes.
func TestJoined(t *testing.T) {
	texts := []string{"", "a", "\x00", "\r", "\n", "\xc3\xa4", "\xe2\x82\xac", odd, "\xf0\x9f\x98\x80", "\x00\xc2\x80", "a\r\nb", "\xed\x9f\xbf\x00"}
	for _, a := range texts {
		for _, b := range texts {
			if d := Decode(a + b); d != Decode(a)+Decode(b) {
				t.Errorf("%q and %q: %q", a, b, d)
			}
			checkAll(t, a+b)
		}
	}
}

// P1.1 to P1.4: long texts, on which a function that takes time by the square would not end in time.
func TestLong(t *testing.T) {
	const n = 1 << 20
	s := strings.Repeat("a\xc3\xa4\xff\x00\r\n\xe2\x82", n)
	if d := Decode(s); d != strings.Repeat("a\xc3\xa4"+odd+odd+"\r\n"+odd+odd, n) {
		t.Error("Decode")
	}
	if l := Lines(s); l != strings.Repeat("a\xc3\xa4\xff\x00\n\xe2\x82", n) {
		t.Error("Lines")
	}
	if r := Ready(s); r != strings.Repeat("a\xc3\xa4"+odd+odd+"\n"+odd+odd, n) {
		t.Error("Ready")
	}
	if c := Count(s); c != 8*n {
		t.Errorf("Count: %d", c)
	}
	if u := Sample(s, 8*n-1); u != s[:len(s)-1] {
		t.Error("Sample")
	}
	if Right(s) || !Right(Decode(s)) {
		t.Error("Right")
	}
}

// The chapter: the package imports nothing.
func TestImportsNothing(t *testing.T) {
	f, err := parser.ParseFile(token.NewFileSet(), "chars.go", nil, parser.ImportsOnly)
	if err != nil {
		t.Fatal(err)
	}
	for _, x := range f.Imports {
		t.Errorf("imports %s", x.Path.Value)
	}
}
