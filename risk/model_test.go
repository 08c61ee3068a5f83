package risk

import (
	"regexp"
	"slices"
	"strings"

	"bolting/api"
)

// The chapter's own words.
const (
	navWords     = "href of a, href of area, formaction of button, src of embed, action of form, src of frame, src of iframe, formaction of input, data of object"
	urlWords     = "src of script, src of embed, data of object"
	htmlWords    = "srcdoc of iframe"
	elementWords = "base, embed, frame, iframe, link, meta, object, script"
)

// within tells whether a list in the chapter's words has this piece as one of its own.
func within(words, piece string) bool {
	return slices.Contains(strings.Split(words, ", "), piece)
}

// paired tells whether a list of pairs has this one. What holds a space or a comma is no name of the chapter.
func paired(words, element, attr string) bool {
	return !strings.ContainsAny(element+attr, " ,") && within(words, attr+" of "+element)
}

// pairs are those that the chapter speaks of, each once.
func pairs() []pair {
	var all []pair
	for _, piece := range strings.Split(navWords+", "+urlWords+", "+htmlWords, ", ") {
		attr, element, _ := strings.Cut(piece, " of ")
		if p := (pair{element, attr}); !slices.Contains(all, p) {
			all = append(all, p)
		}
	}
	return all
}

func wantHandler(attr string) bool {
	behind, is := strings.CutPrefix(attr, "on")
	return is && behind != ""
}

func wantNav(element, attr string) bool {
	return paired(navWords, element, attr)
}

func wantSink(element, attr string) int {
	switch {
	case wantHandler(attr):
		return api.SinkScript
	case paired(urlWords, element, attr):
		return api.SinkUrl
	case paired(htmlWords, element, attr):
		return api.SinkHtml
	}
	return api.SinkNone
}

func wantElement(name string) bool {
	return within(elementWords, name)
}

// runs is what an address that is run begins with: javascript in letters of both sizes, with bytes that are ignored, and a ':'.
var runs = regexp.MustCompile(`\A[\x00-\x20]*` + strings.Join(strings.Split("[jJ] [aA] [vV] [aA] [sS] [cC] [rR] [iI] [pP] [tT] :", " "), `[\t\n\r]*`))

func wantAttr(element string, a api.Attr) bool {
	return wantSink(element, a.Name) != api.SinkNone || wantNav(element, a.Name) && runs.MatchString(a.Value)
}

func wantSafe(l []api.Row) bool {
	return !slices.ContainsFunc(l, func(row api.Row) bool {
		unsafe := func(a api.Attr) bool { return wantAttr(row.Name, a) }
		return row.Kind == api.KindElement && (wantElement(row.Name) || slices.ContainsFunc(row.Attrs, unsafe))
	})
}

// The names that the chapter speaks of, and some that it does not.
var (
	elements = strings.Fields("a area base button embed form frame iframe input link meta object script img div style svg p b template")
	attrs    = strings.Fields("href formaction src action data srcdoc onclick onx on o id title xlink:href srcset style poster data-src")
)

// textsOf are all texts of at most n of the pieces of from.
func textsOf(from []string, n int) []string {
	all := []string{""}
	for start := 0; n > 0; n-- {
		end := len(all)
		for _, s := range all[start:end] {
			for _, piece := range from {
				all = append(all, s+piece)
			}
		}
		start = end
	}
	return all
}

// oneByteOff are all texts that a byte more, fewer or changed makes of s.
func oneByteOff(s string) []string {
	var all []string
	for i := 0; i <= len(s); i++ {
		if i < len(s) {
			all = append(all, s[:i]+s[i+1:])
		}
		for c := range 256 {
			b := string([]byte{byte(c)})
			all = append(all, s[:i]+b+s[i:])
			if i < len(s) {
				all = append(all, s[:i]+b+s[i+1:])
			}
		}
	}
	return all
}
