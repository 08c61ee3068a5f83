package policy

import (
	"fmt"
	"regexp"
	"slices"
	"strings"
	"testing"

	"bolting/api"
	"bolting/build"
	"bolting/config"
	"bolting/settle"
	"bolting/write"
)

// policyName and escapes are the chapters' words on valid names (15) and on Text (3).
var (
	policyName = regexp.MustCompile(`\A[A-Za-z0-9\-#=_/@.%]+\z`)
	escapes    = strings.NewReplacer("&", "&amp;", "<", "&lt;", ">", "&gt;", "\xc2\xa0", "&nbsp;")
)

// wantApply is the second reading of P16.1: what each kind makes, all others nothing.
func wantApply(r api.Rule, s string) (string, api.Errno) {
	makes := map[int]func() (string, api.Errno){
		1: func() (string, api.Errno) { return s, api.OK },
		2: func() (string, api.Errno) { return escapes.Replace(s), api.OK },
		3: func() (string, api.Errno) { return cleaned(s, r.Conf) },
	}
	if slices.Index(r.List, s) >= 0 {
		makes[4] = func() (string, api.Errno) { return s, api.OK }
	}
	if make, found := makes[r.Kind]; found {
		return make()
	}
	return "", 163
}

// cleaned is a document parsed, filtered and written.
func cleaned(s string, c api.Conf) (string, api.Errno) {
	l, e := build.Parse(s)
	if e != api.OK {
		return "", e
	}
	out, _, e := settle.Trees(l, c, true)
	if e != api.OK {
		return "", e
	}
	return write.Rows(out), api.OK
}

// formErrors are what the chapter asks of a policy ahead of its name, as far as it does not hold, in the chapter's order.
func formErrors(p api.Policy) []api.Errno {
	var all []api.Errno
	for _, kind := range []int{p.Html.Kind, p.Script.Kind, p.Url.Kind} {
		if !slices.Contains([]int{0, 1, 2, 3, 4}, kind) {
			all = append(all, 162)
		}
	}
	for _, kind := range []int{p.Script.Kind, p.Url.Kind} {
		if slices.Contains([]int{2, 3}, kind) {
			all = append(all, 162)
		}
	}
	if e := config.Check(p.Html.Conf); p.Html.Kind == 3 && e != api.OK {
		all = append(all, e)
	}
	return all
}

func first(errors []api.Errno) api.Errno { return append(errors, api.OK)[0] }

// entry is what a factory took: a policy, or a text that became a handle.
type entry struct {
	policy *api.Policy
	sink   int
	text   string
}

// diary is a factory as the chapter's words have it, in another form: all that it took, in order. What there is, and its number, is counted in it.
type diary struct {
	guard   api.Guard
	entries []entry
}

func (d *diary) policies() []api.Policy {
	var all []api.Policy
	for _, x := range d.entries {
		if x.policy != nil {
			all = append(all, *x.policy)
		}
	}
	return all
}

func (d *diary) handles() []entry {
	return slices.DeleteFunc(slices.Clone(d.entries), func(x entry) bool { return x.policy != nil })
}

func (d *diary) create(p api.Policy) (int, api.Errno) {
	errors := formErrors(p)
	if !policyName.MatchString(p.Name) || !d.guard.Any && slices.Index(d.guard.Names, p.Name) < 0 {
		errors = append(errors, 160)
	}
	for _, had := range d.policies() {
		if had.Name == p.Name && (!d.guard.Twice || p.Name == "default") {
			errors = append(errors, 161)
		}
	}
	if e := first(errors); e != api.OK {
		return 0, e
	}
	p = clonedPolicy(p)
	d.entries = append(d.entries, entry{policy: &p})
	return len(d.policies()) - 1, api.OK
}

// answer is what the policy of this number makes of a text.
func (d *diary) answer(policy, sink int, s string) (string, api.Errno) {
	for i, p := range d.policies() {
		if i == policy {
			if rule, found := map[int]api.Rule{1: p.Html, 2: p.Script, 3: p.Url}[sink]; found {
				return wantApply(rule, s)
			}
			return "", 1
		}
	}
	return "", 164
}

func (d *diary) make(policy, sink int, s string) (int, api.Errno) {
	text, e := d.answer(policy, sink, s)
	if e != api.OK {
		return 0, e
	}
	d.entries = append(d.entries, entry{sink: sink, text: text})
	return len(d.handles()), api.OK
}

func (d *diary) standing() (int, bool) {
	at := slices.IndexFunc(d.policies(), func(p api.Policy) bool { return p.Name == "default" })
	return max(at, 0), at >= 0
}

func (d *diary) try(sink int, s string) (string, api.Errno) {
	if at, found := d.standing(); found {
		return d.answer(at, sink, s)
	}
	return "", 164
}

func (d *diary) value(handle int) (int, string, bool) {
	for i, x := range d.handles() {
		if i+1 == handle {
			return x.sink, x.text, true
		}
	}
	return 0, "", false
}

func (d *diary) copy() *diary { return &diary{d.guard, slices.Clone(d.entries)} }

// pair is a factory and its diary, to which the same is done.
type pair struct {
	f *Factory
	d *diary
}

func newPair(g api.Guard) *pair { return &pair{New(g), &diary{guard: clonedGuard(g)}} }

func (x *pair) create(t *testing.T, p api.Policy) (int, api.Errno) {
	t.Helper()
	n, e := x.f.Create(p)
	if want, wantE := x.d.create(p); n != want || e != wantE {
		t.Fatalf("Create(%+v): %d, %d, want %d, %d", p, n, e, want, wantE)
	}
	return n, e
}

func (x *pair) make(t *testing.T, policy, sink int, s string) (int, api.Errno) {
	t.Helper()
	n, e := x.f.Make(policy, sink, s)
	if want, wantE := x.d.make(policy, sink, s); n != want || e != wantE {
		t.Fatalf("Make(%d, %d, %q): %d, %d, want %d, %d", policy, sink, s, n, e, want, wantE)
	}
	return n, e
}

func (x *pair) copy() *pair { return &pair{x.f.Copy(), x.d.copy()} }

// check holds all that can be asked without changing anything against the diary.
func (x *pair) check(t *testing.T, texts ...string) {
	t.Helper()
	if n, want := x.f.Policies(), len(x.d.policies()); n != want {
		t.Fatalf("Policies: %d, want %d", n, want)
	}
	if n, want := x.f.Made(), len(x.d.handles()); n != want {
		t.Fatalf("Made: %d, want %d", n, want)
	}
	n, is := x.f.Default()
	if want, wantIs := x.d.standing(); n != want || is != wantIs {
		t.Fatalf("Default: %d, %t, want %d, %t", n, is, want, wantIs)
	}
	for handle := -2; handle < len(x.d.handles())+3; handle++ {
		sink, s, is := x.f.Value(handle)
		if wantSink, want, wantIs := x.d.value(handle); sink != wantSink || s != want || is != wantIs {
			t.Fatalf("Value(%d): %d, %q, %t, want %d, %q, %t", handle, sink, s, is, wantSink, want, wantIs)
		}
	}
	for sink := -1; sink <= api.SinkKinds; sink++ {
		for _, text := range texts {
			s, e := x.f.Try(sink, text)
			if want, wantE := x.d.try(sink, text); s != want || e != wantE {
				t.Fatalf("Try(%d, %q): %q, %d, want %q, %d", sink, text, s, e, want, wantE)
			}
		}
	}
}

// state writes down all that can be asked of a factory without changing it.
func state(f *Factory, texts ...string) string {
	var b strings.Builder
	n, is := f.Default()
	fmt.Fprint(&b, f.Policies(), f.Made(), n, is)
	for handle := -1; handle < f.Made()+2; handle++ {
		sink, s, is := f.Value(handle)
		fmt.Fprintf(&b, " %d %q %t", sink, s, is)
	}
	for sink := -1; sink <= api.SinkKinds; sink++ {
		for _, text := range texts {
			s, e := f.Try(sink, text)
			fmt.Fprintf(&b, " %q %d", s, e)
		}
	}
	return b.String()
}

// answers writes down what each policy of a factory makes of texts, asked of a copy.
func answers(f *Factory, texts ...string) string {
	f = f.Copy()
	var b strings.Builder
	for policy := range f.Policies() {
		for sink := range api.SinkKinds {
			for _, text := range texts {
				handle, e := f.Make(policy, sink, text)
				_, s, _ := f.Value(handle)
				fmt.Fprintf(&b, " %d %q", e, s)
			}
		}
	}
	return b.String()
}

func clonedGuard(g api.Guard) api.Guard {
	g.Names = slices.Clone(g.Names)
	return g
}

func clonedPolicy(p api.Policy) api.Policy {
	p.Html, p.Script, p.Url = clonedRule(p.Html), clonedRule(p.Script), clonedRule(p.Url)
	return p
}

func clonedRule(r api.Rule) api.Rule {
	r.List, r.Conf.Elements, r.Conf.Replace, r.Conf.Attrs = slices.Clone(r.List), slices.Clone(r.Conf.Elements), slices.Clone(r.Conf.Replace), slices.Clone(r.Conf.Attrs)
	r.Conf.Per = slices.Clone(r.Conf.Per)
	for i, p := range r.Conf.Per {
		r.Conf.Per[i].Attrs = slices.Clone(p.Attrs)
	}
	return r
}

func same() api.Rule                 { return api.Rule{Kind: api.RuleSame} }
func escape() api.Rule               { return api.Rule{Kind: api.RuleEscape} }
func clean(c api.Conf) api.Rule      { return api.Rule{Kind: api.RuleClean, Conf: c} }
func listed(list ...string) api.Rule { return api.Rule{Kind: api.RuleList, List: list} }

func per(element string, attrs ...string) api.Per { return api.Per{Element: element, Attrs: attrs} }

// many are so many names.
func many(n int) []string {
	var l []string
	for i := range n {
		l = append(l, fmt.Sprint("x", i))
	}
	return l
}

// wrongConf is a configuration that may not be, and its error.
type wrongConf struct {
	c    api.Conf
	want api.Errno
}

func wrongConfs() []wrongConf {
	return []wrongConf{
		{api.Conf{Elements: many(65)}, 2},
		{api.Conf{Replace: many(65)}, 2},
		{api.Conf{Attrs: many(65), Elements: []string{""}}, 2},
		{api.Conf{Per: []api.Per{per("a", many(65)...)}}, 2},
		{api.Conf{Elements: []string{"B"}}, 121},
		{api.Conf{Replace: []string{"b c", "b c"}}, 121},
		{api.Conf{Attrs: []string{""}, DataAttrs: true}, 121},
		{api.Conf{Per: []api.Per{per("1", "x")}}, 121},
		{api.Conf{Elements: []string{"b", "b"}}, 122},
		{api.Conf{Attrs: []string{"x", "x"}, DataAttrs: true}, 122},
		{api.Conf{Per: []api.Per{per("a", "x"), per("a", "y")}}, 122},
		{api.Conf{Elements: []string{"b"}, Replace: []string{"b"}}, 120},
		{api.Conf{Attrs: []string{"x"}, Per: []api.Per{per("a", "x")}}, 120},
		{api.Conf{DataAttrs: true}, 120},
	}
}

// rightConfs are configurations that may be.
func rightConfs() []api.Conf {
	return []api.Conf{
		{}, config.All(), config.Plain(), config.Strip(config.All()),
		{Elements: many(64), Attrs: many(64)},
		{Allow: true, Elements: []string{"p", "script"}, Replace: []string{"b"}},
		{Elements: []string{"b"}, Replace: []string{"i"}, Comments: true},
		{AttrsAllow: true, DataAttrs: true, Attrs: []string{"id", "onclick"}, Per: []api.Per{per("p", "dir"), per("a", "href")}},
		{Attrs: []string{"id"}, Per: []api.Per{per("p", "dir")}, Comments: true},
	}
}
