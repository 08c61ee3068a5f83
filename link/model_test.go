package link

import (
	"regexp"
	"strconv"
	"strings"
	"testing"
)

// chapter is a plain reading of the chapter, by a pattern for each of its words.
type chapter struct{ ignored, scheme, mark *regexp.Regexp }

func reading() chapter {
	return chapter{
		ignored: regexp.MustCompile(`\A[\x00-\x20]+|[\x00-\x20]+\z|[\x09\x0a\x0d]`),
		scheme:  regexp.MustCompile(`\A([A-Za-z][A-Za-z0-9+\-.]*):`),
		mark:    regexp.MustCompile(`%[0-9A-Fa-f][0-9A-Fa-f]`),
	}
}

func (c chapter) strip(s string) string { return c.ignored.ReplaceAllLiteralString(s, "") }

func (c chapter) schemeOf(s string) (string, bool) {
	found := c.scheme.FindStringSubmatch(c.strip(s))
	if found == nil {
		return "", false
	}
	return strings.ToLower(found[1]), true
}

func (c chapter) percent(s string) string {
	return c.mark.ReplaceAllStringFunc(s, func(mark string) string {
		n, _ := strconv.ParseUint(mark[1:], 16, 8)
		return string([]byte{byte(n)})
	})
}

func (c chapter) source(s string) (string, bool) {
	if scheme, _ := c.schemeOf(s); scheme != "javascript" {
		return "", false
	}
	_, behind, _ := strings.Cut(c.strip(s), ":")
	return c.percent(behind), true
}

// check holds all five functions against the chapter for one text.
func (c chapter) check(t *testing.T, s string) {
	t.Helper()
	stripped := Strip(s)
	if want := c.strip(s); stripped != want {
		t.Errorf("Strip(%q): %q, want %q", s, stripped, want)
	}
	if again := Strip(stripped); again != stripped {
		t.Errorf("Strip(%q): %q", stripped, again)
	}
	scheme, is := Scheme(s)
	if want, wantIs := c.schemeOf(s); scheme != want || is != wantIs {
		t.Errorf("Scheme(%q): %q, %t, want %q, %t", s, scheme, is, want, wantIs)
	}
	source, isSource := Source(s)
	want, wantIs := c.source(s)
	if source != want || isSource != wantIs {
		t.Errorf("Source(%q): %q, %t, want %q, %t", s, source, isSource, want, wantIs)
	}
	if Script(s) != wantIs {
		t.Errorf("Script(%q): want %t", s, wantIs)
	}
	if u, want := Percent(s), c.percent(s); u != want {
		t.Errorf("Percent(%q): %q, want %q", s, u, want)
	}
}

// textsOf are all texts of at most n of the pieces of from.
func textsOf(from []string, n int) []string {
	all := []string{""}
	for start := 0; n > 0; n-- {
		end := len(all)
		for _, s := range all[start:end] {
			for _, piece := range from {
				all = append(all, s+piece)
			}
		}
		start = end
	}
	return all
}

// oneByteOff are all texts that a byte more, fewer or changed makes of s.
func oneByteOff(s string) []string {
	var all []string
	for i := 0; i <= len(s); i++ {
		if i < len(s) {
			all = append(all, s[:i]+s[i+1:])
		}
		for c := range 256 {
			b := string([]byte{byte(c)})
			all = append(all, s[:i]+b+s[i:])
			if i < len(s) {
				all = append(all, s[:i]+b+s[i+1:])
			}
		}
	}
	return all
}

// P9.1, P9.2, P9.3: all short texts of the pieces that matter for a scheme.
func TestAllSchemes(t *testing.T) {
	c := reading()
	pieces := []string{"\x00", "\t", "\n", "\v", "\r", "\x1f", " ", "!", "a", "Z", "@", "7", "+", "-", ".", ":", "/", "?", "#", "%", "\x80"}
	for _, s := range textsOf(pieces, 4) {
		c.check(t, s)
	}
}

// P9.2, P9.3: all short texts of the pieces that matter for what is run.
func TestAllSources(t *testing.T) {
	c := reading()
	for _, s := range textsOf([]string{"java", "JavaScript", "script", ":", "\r", " ", "%", "%3A", "41", "b", "\xff"}, 5) {
		c.check(t, s)
	}
}

// P9.2: all short texts of the pieces that matter for percent marks.
func TestAllMarks(t *testing.T) {
	c := reading()
	for _, s := range textsOf([]string{"%", "0", "2", "5", "a", "F", "g", "\t", "\xb0"}, 5) {
		c.check(t, s)
		c.check(t, "javascript:"+s)
	}
}

// P9.1, P9.2: texts that are a byte off one whose scheme matters.
func TestOneByteOff(t *testing.T) {
	c := reading()
	for _, s := range []string{"javascript:%41", " javascript:x", "java\tscript:", "a:", "A+b-1.:x", "a/b:c", "x:y:z"} {
		for _, off := range oneByteOff(s) {
			c.check(t, off)
		}
	}
}
