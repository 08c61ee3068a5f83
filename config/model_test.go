package config

import (
	"fmt"
	"maps"
	"regexp"
	"slices"
	"strings"

	"bolting/api"
)

// The chapter's own words, and those of chapter 10.
const (
	elementWords = "a, abbr, article, b, blockquote, br, code, dd, div, dl, dt, em, h1, h2, h3, h4, h5, h6, hr, i, img, li, ol, p, pre, section, span, strong, table, tbody, td, th, thead, tr, u, ul"
	attrWords    = "alt, class, dir, height, id, lang, title, width"
	perWords     = "a: href; img: src; td: colspan, rowspan"
	neverWords   = "base, embed, frame, iframe, link, meta, object, script"
)

func split(words string) []string { return strings.Split(words, ", ") }

// Chapter 5's valid names as patterns.
var (
	elementName = regexp.MustCompile(`(?s)\A[a-z][^\t\n\f\r \x00/>A-Z]*\z`)
	attrName    = regexp.MustCompile(`(?s)\A[^\t\n\f\r \x00/>"'<=A-Z]+\z`)
	dataName    = regexp.MustCompile(`(?s)\Adata-.`)
)

// shown writes a configuration down; a list that is nil and one that is empty are the same.
func shown(c api.Conf) string {
	return fmt.Sprintf("allow %t %q, replace %q, attrs %t %q, per %q, comments %t, data %t", c.Allow, c.Elements, c.Replace, c.AttrsAllow, c.Attrs, c.Per, c.Comments, c.DataAttrs)
}

func per(element string, attrs ...string) api.Per { return api.Per{Element: element, Attrs: attrs} }

func pers(l ...api.Per) []api.Per { return l }

func elementsOf(l []api.Per) []string {
	var all []string
	for _, p := range l {
		all = append(all, p.Element)
	}
	return all
}

func counts(l []string) map[string]int {
	n := map[string]int{}
	for _, name := range l {
		n[name]++
	}
	return n
}

func someOf(a, b []string) bool {
	in := counts(b)
	return slices.ContainsFunc(a, func(name string) bool { return in[name] > 0 })
}

// faults are all errors that apply to a configuration.
func faults(c api.Conf) map[api.Errno]bool {
	found := map[api.Errno]bool{}
	see := func(l []string, name *regexp.Regexp) {
		found[api.ErrBig] = found[api.ErrBig] || len(l) > 64
		found[api.ErrConfigTwice] = found[api.ErrConfigTwice] || len(counts(l)) < len(l)
		for _, s := range l {
			found[api.ErrConfigName] = found[api.ErrConfigName] || !name.MatchString(s)
		}
	}
	see(c.Elements, elementName)
	see(c.Replace, elementName)
	see(c.Attrs, attrName)
	see(elementsOf(c.Per), elementName)
	found[api.ErrConfigBoth] = someOf(c.Elements, c.Replace) || (c.DataAttrs && !c.AttrsAllow)
	for _, p := range c.Per {
		see(p.Attrs, attrName)
		found[api.ErrConfigBoth] = found[api.ErrConfigBoth] || someOf(c.Attrs, p.Attrs)
	}
	return found
}

// order is that in which the chapter names the errors of Check.
var order = []api.Errno{api.ErrBig, api.ErrConfigName, api.ErrConfigTwice, api.ErrConfigBoth}

func wantCheck(c api.Conf) api.Errno {
	found := faults(c)
	for _, e := range order {
		if found[e] {
			return e
		}
	}
	return api.OK
}

func wantSorted(l []string) []string { return slices.Sorted(maps.Keys(counts(l))) }

func wantCanon(c api.Conf) api.Conf {
	out := c
	out.Elements, out.Replace, out.Attrs, out.Per = wantSorted(c.Elements), wantSorted(c.Replace), wantSorted(c.Attrs), nil
	which := map[string][]api.Per{}
	for _, p := range c.Per {
		if len(p.Attrs) > 0 {
			which[p.Element] = append(which[p.Element], per(p.Element, wantSorted(p.Attrs)...))
		}
	}
	for _, element := range slices.Sorted(maps.Keys(which)) {
		out.Per = append(out.Per, which[element]...)
	}
	return out
}

// outcomes are those of an element: whether it is in Replace, whether Allow is true, whether it is in Elements.
var outcomes = map[[3]bool]int{
	{true, true, true}:    api.Replaced,
	{true, true, false}:   api.Replaced,
	{true, false, true}:   api.Replaced,
	{true, false, false}:  api.Replaced,
	{false, true, true}:   api.Keep,
	{false, true, false}:  api.Gone,
	{false, false, true}:  api.Gone,
	{false, false, false}: api.Keep,
}

func wantElement(c api.Conf, name string) int {
	return outcomes[[3]bool{slices.Contains(c.Replace, name), c.Allow, slices.Contains(c.Elements, name)}]
}

// kept are the attributes that stay: whether AttrsAllow is true, whether it is named, whether DataAttrs is true and it is one of these.
var kept = map[[3]bool]bool{
	{true, true, true}:    true,
	{true, true, false}:   true,
	{true, false, true}:   true,
	{true, false, false}:  false,
	{false, true, true}:   false,
	{false, true, false}:  false,
	{false, false, true}:  true,
	{false, false, false}: true,
}

func wantAttr(c api.Conf, element, attr string) bool {
	names := slices.Clone(c.Attrs)
	for _, p := range c.Per {
		if p.Element == element {
			names = append(names, p.Attrs...)
		}
	}
	return kept[[3]bool{c.AttrsAllow, slices.Contains(names, attr), c.DataAttrs && dataName.MatchString(attr)}]
}

func wantPlain() api.Conf {
	c := api.Conf{Allow: true, AttrsAllow: true, Elements: split(elementWords), Attrs: split(attrWords)}
	for _, words := range strings.Split(perWords, "; ") {
		element, attrs, _ := strings.Cut(words, ": ")
		c.Per = append(c.Per, per(element, split(attrs)...))
	}
	return c
}

func never(name string) bool { return slices.Contains(split(neverWords), name) }

func wantStrip(c api.Conf) api.Conf {
	out := c
	out.Replace = slices.DeleteFunc(slices.Clone(c.Replace), never)
	out.Elements = slices.Clone(c.Elements)
	if c.Allow {
		out.Elements = slices.DeleteFunc(out.Elements, never)
		return out
	}
	for _, name := range split(neverWords) {
		if !slices.Contains(c.Elements, name) {
			out.Elements = append(out.Elements, name)
		}
	}
	return out
}

// listsOf are all lists of at most n of the names of from.
func listsOf(from []string, n int) [][]string {
	all := [][]string{nil}
	for start := 0; n > 0; n-- {
		end := len(all)
		for _, l := range all[start:end] {
			for _, name := range from {
				all = append(all, append(slices.Clone(l), name))
			}
		}
		start = end
	}
	return all
}

// persOf are all lists of at most n of from.
func persOf(from []api.Per, n int) [][]api.Per {
	all := [][]api.Per{nil}
	for start := 0; n > 0; n-- {
		end := len(all)
		for _, l := range all[start:end] {
			for _, p := range from {
				all = append(all, append(slices.Clone(l), p))
			}
		}
		start = end
	}
	return all
}

// many are n names, each another one, valid ones of elements and of attributes.
func many(prefix string, n int) []string {
	all := make([]string, 0, n)
	for i := range n {
		all = append(all, fmt.Sprintf("%s%d", prefix, i))
	}
	return all
}

// bools hands on a configuration with all values of what is true or false in it.
func bools(c api.Conf, see func(c api.Conf)) {
	for bits := range 16 {
		c.Allow, c.AttrsAllow, c.Comments, c.DataAttrs = bits&1 > 0, bits&2 > 0, bits&4 > 0, bits&8 > 0
		see(c)
	}
}
