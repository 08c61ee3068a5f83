package policy

import (
	"go/parser"
	"go/token"
	"math"
	"math/rand/v2"
	"slices"
	"strconv"
	"strings"
	"testing"

	"bolting/api"
	"bolting/build"
	"bolting/config"
	"bolting/header"
	"bolting/risk"
	"bolting/settle"
)

// checkApply holds Apply against an outcome, and against the second reading.
func checkApply(t *testing.T, r api.Rule, s, want string, wantE api.Errno) {
	t.Helper()
	out, e := Apply(r, s)
	model, modelE := wantApply(r, s)
	if out != want || e != wantE || model != want || modelE != wantE {
		t.Errorf("Apply(%+v, %q): %q, %d, the model %q, %d, want %q, %d", r, s, out, e, model, modelE, want, wantE)
	}
}

// documents are texts that rules make something of.
func documents() []string {
	return []string{
		"", "a", " a ", "<", ">", "&", "\"", "'", "<b>", "a<b>c</b>", "<b onclick=x>a</b><script>y</script>", "<p>a<p>b", "<a href=' java&#10;script:x'>c</a>", "<!--x-->y",
		"&lt;script&gt;", "&amp;lt;", "\u00a0", "a\xc2", "\xff", "\x00", "\r\n", "<style></style><script>x</script>", "<iframe srcdoc=x>", "<x-y dir=a data-b=c id=d>", "</p>", "<!doctype html>e",
		"f()", "g()", "https://a.b/c", "javascript:x",
	}
}

// otherKinds are numbers of no kind of rules.
func otherKinds() []int { return []int{-1, -2, -3, -4, 5, 6, 9, 1 << 32, math.MaxInt, math.MinInt} }

// The chapter's examples.
func TestExamples(t *testing.T) {
	f := New(api.Guard{Any: true})
	if n, e := f.Create(api.Policy{Name: "a", Html: api.Rule{Kind: api.RuleEscape}}); n != 0 || e != api.OK {
		t.Error(n, e)
	}
	if h, e := f.Make(0, api.SinkHtml, "<"); h != 1 || e != api.OK {
		t.Error(h, e)
	}
	if sink, s, is := f.Value(1); sink != api.SinkHtml || s != "&lt;" || !is {
		t.Error(sink, s, is)
	}
	if n, e := f.Create(api.Policy{Name: "a"}); n != 0 || e != api.ErrPolicyTwice {
		t.Error(n, e)
	}
}

// P16.1: RuleReject and all kinds that there are not reject each text, whatever their lists and configurations.
func TestReject(t *testing.T) {
	for _, kind := range append(otherKinds(), api.RuleReject) {
		for _, s := range documents() {
			for _, r := range []api.Rule{{}, {List: documents()}, {Conf: config.All()}, {List: []string{s}, Conf: config.Plain()}, {Conf: api.Conf{DataAttrs: true}}} {
				r.Kind = kind
				checkApply(t, r, s, "", 163)
			}
		}
	}
}

// P16.1: RuleSame changes no text, whatever its list and its configuration.
func TestSame(t *testing.T) {
	long := strings.Repeat("<b>", 1<<17)
	for _, s := range append(documents(), long) {
		for _, r := range []api.Rule{{}, {List: []string{"x"}}, {Conf: config.Plain()}, {Conf: api.Conf{DataAttrs: true}, List: []string{}}} {
			r.Kind = 1
			checkApply(t, r, s, s, 0)
		}
	}
}

// P16.1: RuleEscape, outcomes written out.
func TestEscape(t *testing.T) {
	for s, want := range map[string]string{
		"": "", "a": "a", "a b": "a b", "\"'/=": "\"'/=", "\xc3\xa4": "\xc3\xa4", "\xff\xc2": "\xff\xc2", "\x00\r": "\x00\r",
		"<": "&lt;", ">": "&gt;", "&": "&amp;", "\u00a0": "&nbsp;", "<<": "&lt;&lt;",
		"<x>&\"":                 "&lt;x&gt;&amp;\"",
		"&lt;":                   "&amp;lt;",
		"a<b>c</b>d":             "a&lt;b&gt;c&lt;/b&gt;d",
		"<script>f()</script>":   "&lt;script&gt;f()&lt;/script&gt;",
		"\xc2<\xa0>":             "\xc2&lt;\xa0&gt;",
		"\u00a0a\u00a0":          "&nbsp;a&nbsp;",
		strings.Repeat("<", 1e5): strings.Repeat("&lt;", 1e5),
	} {
		for _, r := range []api.Rule{{}, {List: []string{"x"}}, {Conf: config.Plain()}, {Conf: api.Conf{DataAttrs: true}}} {
			r.Kind = 2
			checkApply(t, r, s, want, 0)
		}
	}
	for c := range 256 {
		checkApply(t, escape(), string([]byte{byte(c)}), map[byte]string{'<': "&lt;", '>': "&gt;", '&': "&amp;"}[byte(c)]+strings.Trim(string([]byte{byte(c)}), "<>&"), 0)
	}
}

// P16.1: RuleClean, texts that change and texts that stay; always safely.
func TestClean(t *testing.T) {
	for _, x := range []struct {
		c       api.Conf
		s, want string
	}{
		{config.Plain(), "", ""},
		{config.Plain(), "a", "a"},
		{config.Plain(), "<b>a</b>", "<b>a</b>"},
		{config.Plain(), `<p id="x">a<br>b &lt; c</p>`, `<p id="x">a<br>b &lt; c</p>`},
		{config.Plain(), "<b onclick=x>a<script>", "<b>a</b>"},
		{config.Plain(), "<b onclick=x>a</b><script>y</script>", "<b>a</b>"},
		{config.Plain(), "<p>a<p>b", "<p>a</p><p>b</p>"},
		{config.Plain(), "<!--x-->a", "a"},
		{config.Plain(), "a < b", "a &lt; b"},
		{config.Plain(), "<u>a<q>b</q></u>", "<u>a</u>"},
		{config.Plain(), "<a href=x title=y rel=z>b", `<a href="x" title="y">b</a>`},
		{config.All(), "<!--x-->a", "<!--x-->a"},
		{config.All(), "<q x=1>a</q>", `<q x="1">a</q>`},
		{config.All(), "<q onx=1>a</q>", "<q>a</q>"},
		{config.All(), "a<script>b</script>c", "ac"},
		{config.All(), `<a href=" java&#10;script:x">y</a>`, "<a>y</a>"},
		{config.All(), "<iframe srcdoc=x></iframe>", ""},
		{api.Conf{}, "<b>a</b><!--x-->", "<b>a</b>"},
		{api.Conf{Allow: true}, "<b>a</b>c", "c"},
		{api.Conf{Allow: true, Elements: []string{"b", "script"}}, "<b>a</b><script>b</script>c<i>d</i>", "<b>a</b>c"},
		{api.Conf{Replace: []string{"b"}}, "<b>a</b>c<i>d</i>", "ac<i>d</i>"},
		{api.Conf{Elements: []string{"b"}, Comments: true}, "<b>a</b><!--x--><i>d</i>", "<!--x--><i>d</i>"},
		{api.Conf{AttrsAllow: true, DataAttrs: true, Attrs: []string{"id"}, Per: []api.Per{per("p", "dir")}}, "<p id=1 dir=2 data-x=3 lang=4></p><b dir=5></b>", `<p id="1" dir="2" data-x="3"></p><b></b>`},
		{api.Conf{Replace: []string{"button"}}, "<p><button><p>a", "<p></p><p>a</p><p></p>"},
		{config.All(), strings.Repeat("&amp;", 13107), strings.Repeat("&amp;", 13107)},
		// What is written of these is more than may be parsed, so that nothing is left.
		{config.All(), strings.Repeat("&", 13108), ""},
		{config.All(), strings.Repeat("a", 65536), strings.Repeat("a", 65536)},
		{config.All(), strings.Repeat("<b>", 60), strings.Repeat("<b>", 60) + strings.Repeat("</b>", 60)},
	} {
		r := clean(x.c)
		checkApply(t, r, x.s, x.want, 0)
		r.List = []string{"z"}
		checkApply(t, r, x.s, x.want, 0)
	}
}

// P16.1: RuleClean, the errors of settle.Text: of the document first, then of the configuration.
func TestCleanErrors(t *testing.T) {
	for _, s := range []string{strings.Repeat("a", 65537), strings.Repeat("<br>", 4097), strings.Repeat("<b>", 61)} {
		for _, c := range rightConfs() {
			checkApply(t, clean(c), s, "", 2)
		}
		for _, x := range wrongConfs() {
			checkApply(t, clean(x.c), s, "", 2)
		}
	}
	for _, x := range wrongConfs() {
		for _, s := range documents() {
			checkApply(t, clean(x.c), s, "", x.want)
		}
	}
}

// P16.1: RuleList, texts that are in the list and that are not, and nothing but the whole text.
func TestList(t *testing.T) {
	for _, x := range []struct {
		list []string
		s    string
		is   bool
	}{
		{nil, "", false}, {nil, "a", false}, {[]string{}, "", false}, {[]string{}, "a", false},
		{[]string{""}, "", true}, {[]string{""}, "a", false}, {[]string{"a"}, "", false}, {[]string{"a", ""}, "", true},
		{[]string{"a"}, "a", true}, {[]string{"a"}, "A", false}, {[]string{"a"}, " a", false}, {[]string{"a"}, "a ", false}, {[]string{"a"}, "b", false},
		{[]string{"a"}, "aa", false}, {[]string{"aa"}, "a", false}, {[]string{"ab"}, "b", false}, {[]string{"a", "b"}, "ab", false}, {[]string{"a,b"}, "a", false},
		{[]string{"a", "b", "c"}, "a", true}, {[]string{"a", "b", "c"}, "b", true}, {[]string{"a", "b", "c"}, "c", true}, {[]string{"a", "b", "c"}, "d", false},
		{[]string{"c", "a", "b"}, "c", true}, {[]string{"c", "a", "b"}, "b", true}, {[]string{"b", "a", "b"}, "b", true},
		{[]string{"\xff"}, "\xff", true}, {[]string{"\xff"}, "\xfe", false}, {[]string{"\uFFFD"}, "\xff", false}, {[]string{"<b>"}, "<b>", true}, {[]string{"&lt;"}, "<", false}, {[]string{"a\x00"}, "a", false},
		{[]string{"f()"}, "f()", true}, {[]string{"f()"}, "f();", false}, {[]string{"https://a.b/c"}, "https://a.b/c", true}, {[]string{"https://a.b/c"}, "https://a.b/", false},
	} {
		want, wantE := x.s, api.Errno(0)
		if !x.is {
			want, wantE = "", 163
		}
		checkApply(t, listed(x.list...), x.s, want, wantE)
		checkApply(t, api.Rule{Kind: 4, List: x.list, Conf: api.Conf{DataAttrs: true}}, x.s, want, wantE)
	}
}

// P16.1: each kind with each text, configuration and list, against the second reading.
func TestApplyAll(t *testing.T) {
	confs := rightConfs()
	for _, x := range wrongConfs() {
		confs = append(confs, x.c)
	}
	for _, kind := range append(otherKinds(), 0, 1, 2, 3, 4) {
		for _, s := range documents() {
			for _, c := range confs {
				for _, list := range [][]string{nil, documents(), {s}, {"x", s + "x"}} {
					r := api.Rule{Kind: kind, List: list, Conf: c}
					want, wantE := wantApply(r, s)
					if out, e := Apply(r, s); out != want || e != wantE {
						t.Errorf("Apply(%+v, %q): %q, %d, want %q, %d", r, s, out, e, want, wantE)
					}
				}
			}
		}
	}
}

// P16.1: outcomes of Check written out.
func TestCheck(t *testing.T) {
	rule := func(kind int) api.Rule { return api.Rule{Kind: kind} }
	wrong := api.Conf{DataAttrs: true}
	for i, x := range []struct {
		p    api.Policy
		want api.Errno
	}{
		{api.Policy{}, 0},
		{api.Policy{Name: "a b"}, 0},
		{api.Policy{Html: same(), Script: same(), Url: same()}, 0},
		{api.Policy{Html: escape(), Script: listed("x"), Url: listed()}, 0},
		{api.Policy{Html: listed()}, 0},
		{api.Policy{Html: clean(config.Plain())}, 0},
		{api.Policy{Html: clean(api.Conf{})}, 0},
		{api.Policy{Html: rule(5)}, 162}, {api.Policy{Script: rule(5)}, 162}, {api.Policy{Url: rule(5)}, 162},
		{api.Policy{Html: rule(-1)}, 162}, {api.Policy{Script: rule(-1)}, 162}, {api.Policy{Url: rule(-1)}, 162},
		{api.Policy{Html: rule(math.MaxInt)}, 162}, {api.Policy{Script: rule(math.MinInt)}, 162}, {api.Policy{Url: rule(1 << 32)}, 162},
		{api.Policy{Script: escape()}, 162}, {api.Policy{Url: escape()}, 162},
		{api.Policy{Script: clean(config.Plain())}, 162}, {api.Policy{Url: clean(config.Plain())}, 162},
		{api.Policy{Script: clean(wrong)}, 162}, {api.Policy{Url: clean(wrong)}, 162},
		{api.Policy{Html: clean(wrong)}, 120},
		{api.Policy{Html: clean(api.Conf{Attrs: []string{""}})}, 121},
		{api.Policy{Html: clean(api.Conf{Attrs: []string{"x", "x"}})}, 122},
		{api.Policy{Html: clean(api.Conf{Attrs: many(65)})}, 2},
		{api.Policy{Html: clean(api.Conf{Attrs: many(64)})}, 0},
		// A Conf that no rule asks for, or that of Script or Url.
		{api.Policy{Html: api.Rule{Kind: 0, Conf: wrong}}, 0}, {api.Policy{Html: api.Rule{Kind: 1, Conf: wrong}}, 0}, {api.Policy{Html: api.Rule{Kind: 2, Conf: wrong}}, 0}, {api.Policy{Html: api.Rule{Kind: 4, Conf: wrong}}, 0},
		{api.Policy{Html: clean(config.All()), Script: api.Rule{Kind: 1, Conf: wrong}, Url: api.Rule{Kind: 4, Conf: wrong}}, 0},
		// The form of any rule comes first.
		{api.Policy{Html: clean(wrong), Script: rule(5)}, 162}, {api.Policy{Html: clean(wrong), Url: rule(-1)}, 162},
		{api.Policy{Html: clean(wrong), Script: escape()}, 162}, {api.Policy{Html: clean(wrong), Url: clean(config.All())}, 162},
		{api.Policy{Html: clean(wrong), Script: same(), Url: listed()}, 120},
	} {
		if e := Check(x.p); e != x.want || first(formErrors(x.p)) != x.want {
			t.Errorf("%d: Check(%+v): %d, want %d", i, x.p, e, x.want)
		}
	}
}

// P16.1: Check for each kind at each of Html, Script and Url, with configurations that may be and that may not at each.
func TestCheckAll(t *testing.T) {
	kinds := append(otherKinds(), 0, 1, 2, 3, 4)
	confs := []api.Conf{{}, config.Plain(), {DataAttrs: true}, {Attrs: []string{""}}, {Attrs: many(65)}, {Elements: []string{"b", "b"}}}
	for _, html := range kinds {
		for _, script := range kinds {
			for _, url := range kinds {
				for i, c := range confs {
					p := api.Policy{Html: api.Rule{Kind: html, Conf: c}, Script: api.Rule{Kind: script, Conf: confs[(i+2)%6]}, Url: api.Rule{Kind: url, Conf: confs[(i+3)%6]}}
					if e, want := Check(p), first(formErrors(p)); e != want {
						t.Errorf("Check of kinds %d, %d, %d and %+v: %d, want %d", html, script, url, c, e, want)
					}
				}
			}
		}
	}
	for _, x := range wrongConfs() {
		if e := Check(api.Policy{Html: clean(x.c)}); e != x.want {
			t.Errorf("Check with %+v: %d, want %d", x.c, e, x.want)
		}
	}
	for _, c := range rightConfs() {
		if e := Check(api.Policy{Html: clean(c)}); e != api.OK {
			t.Errorf("Check with %+v: %d", c, e)
		}
	}
}

// step creates a policy of this name, and says what comes of it.
type step struct {
	name string
	n    int
	e    api.Errno
}

// P16.2: outcomes of Create written out, by guards of Any, of Names and of neither, with Twice and without.
func TestCreate(t *testing.T) {
	for i, x := range []struct {
		g     api.Guard
		steps []step
	}{
		{api.Guard{}, []step{{"a", 0, 160}, {"", 0, 160}, {"default", 0, 160}, {"a", 0, 160}}},
		{api.Guard{Twice: true}, []step{{"a", 0, 160}, {"default", 0, 160}}},
		{api.Guard{On: true, Report: true}, []step{{"a", 0, 160}, {"default", 0, 160}}},
		{api.Guard{Any: true}, []step{{"a", 0, 0}, {"b", 1, 0}, {"a", 0, 161}, {"b", 0, 161}, {"A", 2, 0}, {"ab", 3, 0}, {"default", 4, 0}, {"default", 0, 161}, {"c", 5, 0}, {"c", 0, 161}, {"Default", 6, 0}}},
		{api.Guard{Any: true}, []step{{"default", 0, 0}, {"default", 0, 161}, {"default", 0, 161}, {"defaults", 1, 0}, {"defaul", 2, 0}}},
		{api.Guard{Any: true, Twice: true}, []step{{"a", 0, 0}, {"a", 1, 0}, {"a", 2, 0}, {"b", 3, 0}, {"default", 4, 0}, {"default", 0, 161}, {"a", 5, 0}, {"default", 0, 161}, {"b", 6, 0}, {"Default", 7, 0}, {"Default", 8, 0}, {"defaultx", 9, 0}, {"defaultx", 10, 0}}},
		{api.Guard{Any: true, Twice: true}, []step{{"", 0, 160}, {"a b", 0, 160}, {"a;", 0, 160}, {"*", 0, 160}, {"'none'", 0, 160}, {"\xff", 0, 160}, {" default", 0, 160}, {"default ", 0, 160}, {"-#=_/@.%", 0, 0}, {"0", 1, 0}}},
		{api.Guard{Names: []string{"a", "default"}}, []step{{"a", 0, 0}, {"b", 0, 160}, {"a", 0, 161}, {"default", 1, 0}, {"default", 0, 161}, {"b", 0, 160}, {"A", 0, 160}}},
		{api.Guard{Names: []string{"a", "b"}}, []step{{"default", 0, 160}, {"b", 0, 0}, {"a", 1, 0}, {"default", 0, 160}, {"b", 0, 161}}},
		{api.Guard{Names: []string{"a", "a"}}, []step{{"a", 0, 0}, {"a", 0, 161}}},
		{api.Guard{Names: []string{"a", "default"}, Twice: true}, []step{{"a", 0, 0}, {"a", 1, 0}, {"b", 0, 160}, {"b", 0, 160}, {"default", 2, 0}, {"default", 0, 161}, {"a", 3, 0}}},
		{api.Guard{Names: []string{"", "*", "a b", "a"}}, []step{{"", 0, 160}, {"*", 0, 160}, {"a b", 0, 160}, {"a", 0, 0}}},
		{api.Guard{Any: true, Names: []string{"a"}}, []step{{"b", 0, 0}, {"a", 1, 0}, {"b", 0, 161}}},
		{header.Parse("trusted-types a 'allow-duplicates'", false), []step{{"a", 0, 0}, {"a", 1, 0}, {"default", 0, 160}}},
		{header.Parse("", true), []step{{"a", 0, 0}, {"a", 1, 0}, {"default", 2, 0}, {"default", 0, 161}}},
		{header.Parse("trusted-types 'none'", false), []step{{"none", 0, 160}, {"'none'", 0, 160}}},
	} {
		y := newPair(x.g)
		y.check(t, "x")
		for k, s := range x.steps {
			n, e := y.create(t, api.Policy{Name: s.name, Html: same()})
			if n != s.n || e != s.e {
				t.Errorf("%d, %d: %q: %d, %d, want %d, %d", i, k, s.name, n, e, s.n, s.e)
			}
			y.check(t, "x")
		}
	}
}

// P16.2: the error of Check comes ahead of that of the name, that of the name ahead of that of a second one.
func TestCreateOrder(t *testing.T) {
	f := New(api.Guard{Names: []string{"a", "default"}})
	f.Create(api.Policy{Name: "a"})
	f.Create(api.Policy{Name: "default", Html: same()})
	g := New(api.Guard{})
	for _, name := range []string{"a", "b", "default", "", "a b"} {
		for _, x := range []struct {
			p    api.Policy
			want api.Errno
		}{
			{api.Policy{Html: api.Rule{Kind: 5}}, 162}, {api.Policy{Url: api.Rule{Kind: -1}}, 162}, {api.Policy{Script: escape()}, 162}, {api.Policy{Html: clean(api.Conf{DataAttrs: true}), Url: escape()}, 162},
			{api.Policy{Html: clean(api.Conf{DataAttrs: true})}, 120}, {api.Policy{Html: clean(api.Conf{Elements: []string{""}})}, 121}, {api.Policy{Html: clean(api.Conf{Elements: many(65)})}, 2},
			{api.Policy{Html: clean(api.Conf{Elements: []string{"b", "b"}})}, 122},
		} {
			x.p.Name = name
			for _, one := range []*Factory{f, g} {
				if n, e := one.Create(x.p); n != 0 || e != x.want {
					t.Errorf("%q, %+v: %d, %d, want %d", name, x.p, n, e, x.want)
				}
			}
		}
	}
	// With the names that the guard does not allow any more, if it ever did: there is no second one of these.
	for name, want := range map[string]api.Errno{"a": 161, "default": 161, "b": 160, "": 160, "a b": 160} {
		if n, e := f.Create(api.Policy{Name: name}); n != 0 || e != want {
			t.Errorf("%q: %d, %d, want %d", name, n, e, want)
		}
	}
	if f.Policies() != 2 || g.Policies() != 0 {
		t.Error(f.Policies(), g.Policies())
	}
}

// P16.2: a policy that is refused takes neither a number nor its name.
func TestRefusedTakesNothing(t *testing.T) {
	x := newPair(api.Guard{Names: []string{"a", "b", "default"}})
	refused := func() {
		t.Helper()
		before, made := state(x.f, documents()...), answers(x.f, documents()...)
		for _, name := range []string{"a", "b", "default", "c", ""} {
			x.create(t, api.Policy{Name: name, Html: same(), Script: escape()})
			x.create(t, api.Policy{Name: name, Html: clean(api.Conf{DataAttrs: true})})
			x.create(t, api.Policy{Name: name, Html: api.Rule{Kind: 7}, Script: same(), Url: same()})
		}
		for _, p := range x.d.policies() {
			x.create(t, api.Policy{Name: p.Name, Html: same(), Script: same(), Url: same()})
		}
		if state(x.f, documents()...) != before || answers(x.f, documents()...) != made {
			t.Error("something was changed")
		}
	}
	refused()
	for n, name := range []string{"b", "default", "a"} {
		if got, e := x.create(t, api.Policy{Name: name, Html: listed(name)}); got != n || e != api.OK {
			t.Errorf("%q: %d, %d", name, got, e)
		}
		refused()
	}
}

// P16.2: the default policy is the one of this name alone, whatever its number; without one there is none.
func TestDefault(t *testing.T) {
	for before := range 4 {
		x := newPair(api.Guard{Any: true, Twice: true})
		for i := range before {
			x.create(t, api.Policy{Name: []string{"a", "Default", "a", "default1"}[i], Html: same()})
			if n, is := x.f.Default(); n != 0 || is {
				t.Errorf("%d: %d, %t", i, n, is)
			}
			x.check(t, documents()...)
		}
		x.create(t, api.Policy{Name: "default", Html: escape()})
		for i := range 4 {
			if n, is := x.f.Default(); n != before || !is {
				t.Errorf("%d, %d: %d, %t", before, i, n, is)
			}
			if s, e := x.f.Try(api.SinkHtml, "<"); s != "&lt;" || e != api.OK {
				t.Errorf("%d, %d: %q, %d", before, i, s, e)
			}
			x.check(t, documents()...)
			x.create(t, api.Policy{Name: []string{"a", "default", "DEFAULT", "default"}[i], Html: same()})
		}
	}
}

// P16.2, P16.4: the default policy may have each number, also in a copy.
func TestDefaultNumber(t *testing.T) {
	f := New(api.Guard{Any: true})
	for n := range 300 {
		c := f.Copy()
		if got, e := c.Create(api.Policy{Name: "default", Url: listed(strconv.Itoa(n))}); got != n || e != api.OK {
			t.Fatal(n, got, e)
		}
		for _, one := range []*Factory{c, c.Copy()} {
			if got, is := one.Default(); got != n || !is {
				t.Errorf("%d: %d, %t", n, got, is)
			}
			if s, e := one.Try(api.SinkUrl, strconv.Itoa(n)); s != strconv.Itoa(n) || e != api.OK {
				t.Errorf("%d: %q, %d", n, s, e)
			}
		}
		if got, is := f.Default(); got != 0 || is {
			t.Errorf("without one, behind %d: %d, %t", n, got, is)
		}
		f.Create(api.Policy{Name: "p" + strconv.Itoa(n)})
	}
}

// three have different rules for each sink; the one in the midst is the default policy.
func three(t *testing.T) *pair {
	t.Helper()
	x := newPair(api.Guard{Any: true, Twice: true})
	for _, p := range []api.Policy{
		{Name: "a", Html: escape(), Script: listed("f()", "g()"), Url: same()},
		{Name: "default", Html: clean(config.Plain()), Script: same(), Url: listed("https://a.b/c", "")},
		{Name: "a", Html: listed("<b>"), Url: listed("f()")},
	} {
		x.create(t, p)
	}
	return x
}

// P16.3: outcomes of Make and Value written out.
func TestMake(t *testing.T) {
	x := three(t)
	for i, y := range []struct {
		policy, sink int
		s            string
		n            int
		want         string
		e            api.Errno
	}{
		{0, api.SinkHtml, "<b>", 1, "&lt;b&gt;", 0},
		{0, api.SinkScript, "f()", 2, "f()", 0},
		{0, api.SinkScript, "h()", 0, "", 163},
		{0, api.SinkScript, "", 0, "", 163},
		{0, api.SinkUrl, "<b>", 3, "<b>", 0},
		{1, api.SinkHtml, "<b onx=1>", 4, "<b></b>", 0},
		{1, api.SinkScript, "h()", 5, "h()", 0},
		{1, api.SinkUrl, "", 6, "", 0},
		{1, api.SinkUrl, "x", 0, "", 163},
		{1, api.SinkHtml, strings.Repeat("a", 65537), 0, "", 2},
		{1, api.SinkHtml, strings.Repeat("a", 65536), 7, strings.Repeat("a", 65536), 0},
		{2, api.SinkHtml, "<b>", 8, "<b>", 0},
		{2, api.SinkHtml, "<i>", 0, "", 163},
		{2, api.SinkScript, "f()", 0, "", 163},
		{2, api.SinkUrl, "f()", 9, "f()", 0},
		{2, api.SinkUrl, "f()", 10, "f()", 0},
		{0, api.SinkHtml, "", 11, "", 0},
	} {
		n, e := x.make(t, y.policy, y.sink, y.s)
		sink, s, is := x.f.Value(n)
		if n != y.n || e != y.e || s != y.want || is != (e == api.OK) || is && sink != y.sink {
			t.Errorf("%d: %d, %d: %d, %q, %t", i, n, e, sink, s, is)
		}
		x.check(t, documents()...)
	}
}

// P16.3: no policy is told ahead of no sink, that ahead of what the rule says; what is refused makes no handle.
func TestMakeOrder(t *testing.T) {
	sinks := []int{-1, 0, 1, 2, 3, 4, 5, 1 << 32, math.MaxInt, math.MinInt}
	for _, x := range []*pair{newPair(api.Guard{Any: true}), three(t)} {
		count := x.f.Policies()
		for _, policy := range []int{-1, -2, 0, 1, 2, 3, 4, count - 1, count, count + 1, 1 << 32, math.MaxInt, math.MinInt} {
			for _, sink := range sinks {
				for _, s := range []string{"f()", "nowhere", ""} {
					before := x.f.Made()
					n, e := x.make(t, policy, sink, s)
					switch {
					case policy < 0 || policy >= count:
						if n != 0 || e != 164 {
							t.Errorf("policy %d, sink %d, %q: %d, %d", policy, sink, s, n, e)
						}
					case sink < 1 || sink > 3:
						if n != 0 || e != 1 {
							t.Errorf("policy %d, sink %d, %q: %d, %d", policy, sink, s, n, e)
						}
					}
					if e == api.OK && (n != before+1 || x.f.Made() != n) || e != api.OK && (n != 0 || x.f.Made() != before) {
						t.Errorf("policy %d, sink %d, %q: %d, %d, made %d, before %d", policy, sink, s, n, e, x.f.Made(), before)
					}
				}
			}
		}
		x.check(t, documents()...)
	}
}

// P16.3: handles that there are not.
func TestNoHandle(t *testing.T) {
	x := three(t)
	none := func(handles ...int) {
		t.Helper()
		for _, h := range handles {
			if sink, s, is := x.f.Value(h); sink != 0 || s != "" || is {
				t.Errorf("%d: %d, %q, %t", h, sink, s, is)
			}
		}
	}
	far := []int{0, -1, -2, 9, 1 << 32, math.MaxInt, math.MinInt}
	none(append(far, 1, 2)...)
	for n := 1; n <= 5; n++ {
		x.make(t, 0, api.SinkHtml, "<")
		none(append(far, n+1, n+2, -n)...)
		if sink, s, is := x.f.Value(n); sink != api.SinkHtml || s != "&lt;" || !is {
			t.Errorf("%d: %d, %q, %t", n, sink, s, is)
		}
	}
}

// P16.3: outcomes of Try written out.
func TestTry(t *testing.T) {
	x := three(t)
	without := New(api.Guard{Any: true})
	without.Create(api.Policy{Name: "a", Html: same(), Script: same(), Url: same()})
	for _, sink := range []int{-1, 0, 1, 2, 3, 4, 1 << 32, math.MaxInt, math.MinInt} {
		for _, s := range documents() {
			for _, f := range []*Factory{New(api.Guard{}), without} {
				if out, e := f.Try(sink, s); out != "" || e != 164 {
					t.Errorf("without one, sink %d, %q: %q, %d", sink, s, out, e)
				}
			}
			out, e := x.f.Try(sink, s)
			if want, wantE := x.d.try(sink, s); out != want || e != wantE {
				t.Errorf("sink %d, %q: %q, %d, want %q, %d", sink, s, out, e, want, wantE)
			}
		}
	}
	for i, y := range []struct {
		sink    int
		s, want string
		e       api.Errno
	}{
		{api.SinkNone, "x", "", 1}, {api.SinkKinds, "x", "", 1}, {-1, "x", "", 1}, {0, strings.Repeat("a", 65537), "", 1},
		{api.SinkHtml, "<b onx=1>a", "<b>a</b>", 0}, {api.SinkHtml, "", "", 0}, {api.SinkHtml, strings.Repeat("a", 65537), "", 2},
		{api.SinkScript, "<b onx=1>a", "<b onx=1>a", 0}, {api.SinkScript, "", "", 0},
		{api.SinkUrl, "https://a.b/c", "https://a.b/c", 0}, {api.SinkUrl, "", "", 0}, {api.SinkUrl, "https://a.b", "", 163},
	} {
		if s, e := x.f.Try(y.sink, y.s); s != y.want || e != y.e {
			t.Errorf("%d: %q, %d", i, s, e)
		}
	}
	// No handle was made of any of these.
	if x.f.Made() != 0 || without.Made() != 0 {
		t.Error(x.f.Made(), without.Made())
	}
	if n, _ := x.make(t, 0, api.SinkHtml, "<"); n != 1 {
		t.Error(n)
	}
}

// P16.4: Default, Policies and Made of one without anything.
func TestNew(t *testing.T) {
	for _, g := range []api.Guard{{}, {Any: true}, {Names: []string{"default"}}, {On: true, Report: true, Twice: true}} {
		x := newPair(g)
		if n, is := x.f.Default(); n != 0 || is || x.f.Policies() != 0 || x.f.Made() != 0 {
			t.Errorf("%+v: %d, %t, %d, %d", g, n, is, x.f.Policies(), x.f.Made())
		}
		x.check(t, documents()...)
		x.copy().check(t, documents()...)
	}
}

// P16.4: each number of policies and handles is counted.
func TestCounts(t *testing.T) {
	f := New(api.Guard{Any: true, Twice: true})
	for n := range 50 {
		if f.Policies() != n || f.Made() != 3*n {
			t.Fatal(n, f.Policies(), f.Made())
		}
		if got, e := f.Create(api.Policy{Name: "a" + strconv.Itoa(n%7), Html: same(), Url: same()}); got != n || e != api.OK {
			t.Fatal(n, got, e)
		}
		for i := range 3 {
			if h, e := f.Make(n, api.SinkUrl, strconv.Itoa(i)); h != 3*n+i+1 || e != api.OK {
				t.Fatal(n, i, h, e)
			}
			f.Make(n, api.SinkScript, "rejected")
		}
	}
}

// P16.4, R7: what is done to either of two is not in the other, in both directions; both go on with the same numbers.
func TestCopy(t *testing.T) {
	change := func(x *pair) {
		t.Helper()
		policies, handles := x.f.Policies(), x.f.Made()
		if n, e := x.create(t, api.Policy{Name: "new", Html: same()}); n != policies || e != api.OK {
			t.Error(n, e)
		}
		if n, e := x.make(t, policies, api.SinkHtml, "<new>"); n != handles+1 || e != api.OK {
			t.Error(n, e)
		}
		x.create(t, api.Policy{Name: "default", Html: same(), Script: listed("new")})
	}
	filled := three(t)
	for i := range 5 {
		filled.make(t, i%2, api.SinkHtml, strings.Repeat("<", i))
	}
	for i, start := range []*pair{newPair(api.Guard{Any: true}), filled, three(t), newPair(api.Guard{Names: []string{"new", "default"}})} {
		for _, ofCopy := range []bool{false, true} {
			x := start.copy()
			y := x.copy()
			x.check(t, documents()...)
			y.check(t, documents()...)
			if ofCopy {
				x, y = y, x
			}
			before, made := state(y.f, documents()...), answers(y.f, documents()...)
			change(x)
			if state(y.f, documents()...) != before || answers(y.f, documents()...) != made {
				t.Errorf("%d, %t: a change of one is in the other", i, ofCopy)
			}
			y.check(t, documents()...)
			change(y)
			x.check(t, documents()...)
			y.check(t, documents()...)
			if state(x.f, documents()...) != state(y.f, documents()...) || answers(x.f, documents()...) != answers(y.f, documents()...) {
				t.Errorf("%d, %t: the same change makes a difference", i, ofCopy)
			}
		}
	}
}

// P16.4, R7: a default policy is set in the one in which it is created alone, and once in each.
func TestCopyDefault(t *testing.T) {
	for _, twice := range []bool{false, true} {
		f := New(api.Guard{Any: true, Twice: twice})
		f.Create(api.Policy{Name: "a"})
		c := f.Copy()
		c.Create(api.Policy{Name: "b"})
		if n, e := c.Create(api.Policy{Name: "default", Script: same()}); n != 2 || e != api.OK {
			t.Error(n, e)
		}
		if n, is := f.Default(); n != 0 || is {
			t.Error(n, is)
		}
		if _, e := f.Try(api.SinkScript, "x"); e != 164 {
			t.Error(e)
		}
		if n, e := f.Create(api.Policy{Name: "default", Url: same()}); n != 1 || e != api.OK {
			t.Error(n, e)
		}
		for one, want := range map[*Factory]int{f: 1, c: 2, f.Copy(): 1, c.Copy(): 2, c.Copy().Copy(): 2} {
			if n, is := one.Default(); n != want || !is {
				t.Error(n, is, want)
			}
			if n, e := one.Create(api.Policy{Name: "default"}); n != 0 || e != 161 {
				t.Error(n, e)
			}
			if _, e := one.Try(api.SinkScript, "x"); (e == api.OK) != (want == 2) {
				t.Error(e, want)
			}
		}
	}
}

// P16.4, R7: names that are taken in one are not in the other, and the guard is the same in both.
func TestCopyNames(t *testing.T) {
	f := New(api.Guard{Names: []string{"a", "b", "c"}})
	f.Create(api.Policy{Name: "a"})
	c := f.Copy()
	f.Create(api.Policy{Name: "b"})
	c.Create(api.Policy{Name: "c"})
	for _, x := range []struct {
		f    *Factory
		name string
		n    int
		e    api.Errno
	}{{f, "a", 0, 161}, {c, "a", 0, 161}, {f, "b", 0, 161}, {c, "c", 0, 161}, {f, "d", 0, 160}, {c, "d", 0, 160}, {f, "c", 2, 0}, {c, "b", 2, 0}} {
		if n, e := x.f.Create(api.Policy{Name: x.name}); n != x.n || e != x.e {
			t.Errorf("%q: %d, %d", x.name, n, e)
		}
	}
}

// P16.5: what a handle represents stays what it was at first, whatever is done afterwards.
func TestHandlesStay(t *testing.T) {
	type value struct {
		sink int
		text string
	}
	for seed := range uint64(60) {
		x, r := three(t), rand.New(rand.NewPCG(seed, 16))
		var values []value
		for range 60 {
			switch r.IntN(4) {
			case 0:
				x.create(t, api.Policy{Name: []string{"a", "b", "default", ""}[r.IntN(4)], Html: same(), Script: listed("f()")})
			case 1:
				c := x.copy()
				c.make(t, 0, api.SinkUrl, "of a copy")
			case 2:
				x.f.Try(r.IntN(4), documents()[r.IntN(len(documents()))])
			}
			n, e := x.make(t, r.IntN(x.f.Policies()+1), r.IntN(5), documents()[r.IntN(len(documents()))])
			if e == api.OK {
				sink, s, _ := x.f.Value(n)
				values = append(values, value{sink, s})
			}
			for i, v := range values {
				if sink, s, is := x.f.Value(i + 1); sink != v.sink || s != v.text || !is {
					t.Fatalf("%d: %d, %q, %t, at first %d, %q", i+1, sink, s, is, v.sink, v.text)
				}
			}
		}
	}
}

// pieces are what texts are put together of at random.
func pieces() []string {
	return []string{
		"<", ">", "&", "\"", "=", " ", "/", "<b>", "</b>", "<p>", "</p>", "<script>", "</script>", "<style>", "</style>", "<textarea>", "</textarea>", "<iframe srcdoc=", "<a href=", "javascript:", " onclick=x",
		"<!--", "-->", "<svg/onload=x>", "&lt;", "&#60;", "x", "\u00a0", "\xc2", "\x00", "\r", "<button>", "<base href=//x>", "<img src=x onerror=y>", "<template>", "<li>", "'",
	}
}

// randomText is one of some pieces.
func randomText(r *rand.Rand, n int) string {
	var b strings.Builder
	for range r.IntN(n) {
		b.WriteString(pieces()[r.IntN(len(pieces()))])
	}
	return b.String()
}

// P16.5: what is made by RuleList is one of the list, by RuleClean it parses to safe trees, by RuleEscape it has no '<'.
func TestProperties(t *testing.T) {
	list := []string{"", "x", "<b>", "<", "javascript:"}
	f := New(api.Guard{Any: true})
	f.Create(api.Policy{Name: "default", Html: listed(list...), Script: listed(list...), Url: listed(list...)})
	f.Create(api.Policy{Name: "escapes", Html: escape()})
	for i, c := range rightConfs() {
		f.Create(api.Policy{Name: "cleans" + strconv.Itoa(i), Html: clean(c)})
	}
	for seed := range uint64(4000) {
		r := rand.New(rand.NewPCG(seed, 161))
		s := randomText(r, 12)
		for policy := range f.Policies() {
			for sink := range api.SinkKinds {
				h, e := f.Make(policy, sink, s)
				if e != api.OK {
					continue
				}
				_, text, _ := f.Value(h)
				l, parsed := build.Parse(text)
				switch {
				case policy == 0 && !slices.Contains(list, text):
					t.Errorf("%q: %q is not one of the list", s, text)
				case policy == 1 && strings.Contains(text, "<"):
					t.Errorf("%q: %q has a '<'", s, text)
				case policy > 1 && (parsed != api.OK || !risk.Safe(l) || !settle.Stable(l)):
					t.Errorf("%q: %q is not safe", s, text)
				}
			}
		}
		for sink := range api.SinkKinds {
			if text, e := f.Try(sink, s); e == api.OK && !slices.Contains(list, text) {
				t.Errorf("%q: %q is not one of the list", s, text)
			}
		}
	}
}

// acts are what can be done to a factory; a copy takes its place, or it is copied and the copy is changed.
func acts() []func(t *testing.T, x *pair) {
	creates := func(p api.Policy) func(t *testing.T, x *pair) {
		return func(t *testing.T, x *pair) { x.create(t, p) }
	}
	makes := func(policy, sink int, s string) func(t *testing.T, x *pair) {
		return func(t *testing.T, x *pair) { x.make(t, policy, sink, s) }
	}
	return []func(t *testing.T, x *pair){
		creates(api.Policy{Name: "a", Html: same(), Url: listed("f()")}),
		creates(api.Policy{Name: "b", Html: escape(), Script: listed("f()", "<b>")}),
		creates(api.Policy{Name: "default", Html: clean(config.Plain()), Script: same()}),
		creates(api.Policy{Name: "default", Html: listed("<b>")}),
		creates(api.Policy{Name: "a", Html: clean(api.Conf{DataAttrs: true})}),
		creates(api.Policy{Name: "c"}),
		makes(0, api.SinkHtml, "<b>"),
		makes(1, api.SinkScript, "f()"),
		makes(0, api.SinkUrl, "f()"),
		makes(1, api.SinkHtml, "<b>"),
		makes(0, api.SinkNone, "f()"),
		func(t *testing.T, x *pair) { *x = *x.copy() },
		func(t *testing.T, x *pair) {
			c := x.copy()
			c.create(t, api.Policy{Name: "default", Script: escape()})
			c.create(t, api.Policy{Name: "b", Html: same()})
			c.make(t, 0, api.SinkHtml, "of a copy")
		},
	}
}

// P16.2 to P16.4: all short runs of what can be done, by each sort of guards.
func TestAllRuns(t *testing.T) {
	all := acts()
	guards := []api.Guard{{Any: true}, {Any: true, Twice: true}, {Names: []string{"a", "default"}}, {Names: []string{"b", "a"}, Twice: true}}
	var run func(x *pair, left int)
	run = func(x *pair, left int) {
		for _, act := range all {
			y := &pair{x.f.Copy(), x.d.copy()}
			act(t, y)
			y.check(t, "<b>", "f()")
			if left > 1 {
				run(y, left-1)
			}
		}
	}
	for _, g := range guards {
		run(newPair(g), 4)
	}
}

// P16.2 to P16.4: the same without copies in between, run after run from the start.
func TestAllRunsAnew(t *testing.T) {
	all := acts()
	for _, g := range []api.Guard{{Any: true}, {Any: true, Twice: true}} {
		for i := range len(all) * len(all) * len(all) {
			x := newPair(g)
			for k := i; k > 0; k /= len(all) {
				all[k%len(all)](t, x)
			}
			x.check(t, "<b>", "f()")
		}
	}
}

// P16.1 to P16.4: longer runs at random, by seeds that are always the same.
func TestRandomRuns(t *testing.T) {
	names := []string{"a", "b", "c", "default", "default", "d", "", "x y", "A", "Default"}
	guards := []api.Guard{{Any: true}, {Any: true, Twice: true}, {Names: []string{"a", "c", "default", "A"}}, {Names: []string{"b", "default", "d"}, Twice: true}, {On: true, Any: true}}
	confs, texts := rightConfs(), documents()
	for seed := range uint64(500) {
		r := rand.New(rand.NewPCG(seed, 162))
		rule := func() api.Rule {
			out := api.Rule{Kind: r.IntN(7) - 1, Conf: confs[r.IntN(len(confs))]}
			for range r.IntN(3) {
				out.List = append(out.List, texts[r.IntN(len(texts))])
			}
			return out
		}
		x := newPair(guards[r.IntN(len(guards))])
		var others []*pair
		for range 40 {
			switch r.IntN(10) {
			case 0:
				others = append(others, x.copy())
			case 1, 2:
				x.create(t, api.Policy{Name: names[r.IntN(len(names))], Html: rule(), Script: rule(), Url: rule()})
			case 3, 4, 5:
				p := api.Policy{Name: names[r.IntN(len(names))], Html: rule()}
				p.Script.Kind, p.Url.Kind = []int{0, 1, 4}[r.IntN(3)], []int{0, 1, 4}[r.IntN(3)]
				p.Script.List, p.Url.List = rule().List, rule().List
				x.create(t, p)
			default:
				x.make(t, r.IntN(x.f.Policies()+2)-1, r.IntN(6)-1, texts[r.IntN(len(texts))])
			}
		}
		for _, y := range append(others, x) {
			y.check(t, texts...)
		}
	}
}

// R1, P16.2, P16.3: many policies and handles, on which a factory that takes time by the square would not end in time.
func TestMany(t *testing.T) {
	const n = 1 << 17
	f := New(api.Guard{Any: true})
	for i := range n {
		name := "p" + strconv.Itoa(i)
		if got, e := f.Create(api.Policy{Name: name, Url: same()}); got != i || e != api.OK {
			t.Fatal(i, got, e)
		}
		if _, e := f.Create(api.Policy{Name: name}); e != api.ErrPolicyTwice {
			t.Fatal(i, e)
		}
		if h, e := f.Make(i, api.SinkUrl, name); h != i+1 || e != api.OK {
			t.Fatal(i, h, e)
		}
	}
	c := f.Copy()
	for i := range n {
		if sink, s, is := c.Value(i + 1); sink != api.SinkUrl || s != "p"+strconv.Itoa(i) || !is {
			t.Fatal(i, sink, s, is)
		}
	}
	if f.Policies() != n || f.Made() != n || c.Policies() != n || c.Made() != n {
		t.Error(f.Policies(), f.Made(), c.Policies(), c.Made())
	}
	list := many(n)
	if s, e := Apply(listed(list...), list[n-1]); s != list[n-1] || e != api.OK {
		t.Error(e)
	}
	if s, e := Apply(listed(list...), "nowhere"); s != "" || e != api.ErrPolicyText {
		t.Error(s, e)
	}
}

// The chapter: the package imports api, refs, config, settle and header, and of the library what its ways ask for.
func TestImports(t *testing.T) {
	f, err := parser.ParseFile(token.NewFileSet(), "policy.go", nil, parser.ImportsOnly)
	if err != nil {
		t.Fatal(err)
	}
	may := []string{`"bolting/api"`, `"bolting/refs"`, `"bolting/config"`, `"bolting/settle"`, `"bolting/header"`, `"slices"`, `"sync"`, `"sync/atomic"`}
	for _, x := range f.Imports {
		if !slices.Contains(may, x.Path.Value) {
			t.Errorf("imports %s", x.Path.Value)
		}
	}
}
