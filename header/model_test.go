package header

import (
	"fmt"
	"regexp"
	"slices"
	"strings"

	"bolting/api"
)

// A second reading of the chapter: words, great letters and valid names as patterns.
var (
	words      = regexp.MustCompile(`[^\x09\x0a\x0c\x0d\x20]+`)
	greats     = regexp.MustCompile(`[A-Z]+`)
	policyName = regexp.MustCompile(`\A[A-Za-z0-9\-#=_/@.%]+\z`)
)

func wantParts(s string) [][]string {
	var all [][]string
	for _, part := range strings.Split(s, ";") {
		if l := words.FindAllString(part, -1); l != nil {
			l[0] = greats.ReplaceAllStringFunc(l[0], strings.ToLower)
			all = append(all, l)
		}
	}
	var out [][]string
	for i, part := range all {
		if !slices.ContainsFunc(all[:i], func(before []string) bool { return before[0] == part[0] }) {
			out = append(out, part)
		}
	}
	return out
}

// valuesOf are the values of a directive, and whether there is one.
func valuesOf(s, name string) ([]string, bool) {
	for _, part := range wantParts(s) {
		if part[0] == name {
			return part[1:], true
		}
	}
	return nil, false
}

func wantParse(s string, report bool) api.Guard {
	required, _ := valuesOf(s, "require-trusted-types-for")
	types, found := valuesOf(s, "trusted-types")
	g := api.Guard{On: slices.Contains(required, "'script'"), Report: report}
	g.Any = !found || slices.Contains(types, "*")
	g.Twice = !found || slices.Contains(types, "'allow-duplicates'")
	for i, value := range types {
		if policyName.MatchString(value) && slices.Index(types, value) == i {
			g.Names = append(g.Names, value)
		}
	}
	return g
}

// hindrances are what the chapter asks of a name that is allowed, as far as it does not hold.
func hindrances(g api.Guard, name string, had int) []string {
	var all []string
	if !policyName.MatchString(name) {
		all = append(all, "no valid name")
	}
	if !g.Any && !slices.Contains(g.Names, name) {
		all = append(all, "not in Names")
	}
	if had > 0 && !g.Twice {
		all = append(all, "there is one already")
	}
	return all
}

// shown writes a guard down; Names that are nil and Names that are empty are the same.
func shown(g api.Guard) string {
	return fmt.Sprintf("on %t, report %t, any %t, twice %t, names %q", g.On, g.Report, g.Any, g.Twice, g.Names)
}

// split is what Parts answers, from the words of each directive with one blank between.
func split(directives ...string) [][]string {
	var out [][]string
	for _, s := range directives {
		out = append(out, strings.Split(s, " "))
	}
	return out
}

// sameParts tells whether two are the same list of lists.
func sameParts(a, b [][]string) bool { return slices.EqualFunc(a, b, slices.Equal[[]string]) }

// textsOf are all texts of at most n of the pieces of from.
func textsOf(from []string, n int) []string {
	all := []string{""}
	for start := 0; n > 0; n-- {
		end := len(all)
		for _, s := range all[start:end] {
			for _, piece := range from {
				all = append(all, s+piece)
			}
		}
		start = end
	}
	return all
}

// guards hands on a guard with all values of what is true or false in it.
func guards(names []string, see func(g api.Guard)) {
	for bits := range 16 {
		see(api.Guard{On: bits&1 > 0, Report: bits&2 > 0, Any: bits&4 > 0, Twice: bits&8 > 0, Names: names})
	}
}
