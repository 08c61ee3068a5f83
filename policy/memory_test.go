package policy

import (
	"fmt"
	"slices"
	"testing"

	"bolting/api"
	"bolting/config"
)

// roomy is the same list with room behind it, filled with what a change would be seen in.
func roomy[T any](l []T, spare T) []T {
	out := append(make([]T, 0, len(l)+6), l...)
	full := out[:cap(out)]
	for i := len(l); i < len(full); i++ {
		full[i] = spare
	}
	return out
}

// roomyRule is the same rule with room behind all of its lists.
func roomyRule(r api.Rule) api.Rule {
	c := &r.Conf
	r.List = roomy(r.List, "spare")
	c.Elements, c.Replace, c.Attrs = roomy(c.Elements, "spare"), roomy(c.Replace, "spare"), roomy(c.Attrs, "spare")
	pers := slices.Clone(c.Per)
	for i := range pers {
		pers[i].Attrs = roomy(pers[i].Attrs, "spare")
	}
	c.Per = roomy(pers, per("spare", "spare"))
	return r
}

func roomyPolicy(p api.Policy) api.Policy {
	p.Html, p.Script, p.Url = roomyRule(p.Html), roomyRule(p.Script), roomyRule(p.Url)
	return p
}

// lists are all lists of names of a rule, with the room behind them.
func lists(r api.Rule) [][]string {
	all := [][]string{r.List, r.Conf.Elements, r.Conf.Replace, r.Conf.Attrs}
	for _, p := range r.Conf.Per[:cap(r.Conf.Per)] {
		all = append(all, p.Attrs)
	}
	for i, l := range all {
		all[i] = l[:cap(l)]
	}
	return all
}

// wholly writes a policy down with all that is in the room behind its lists.
func wholly(p api.Policy) string {
	s := fmt.Sprintf("%+v", p)
	for _, r := range []api.Rule{p.Html, p.Script, p.Url} {
		s += fmt.Sprintf(" %q %+v", lists(r), r.Conf.Per[:cap(r.Conf.Per)])
	}
	return s
}

// spoil overwrites all lists of a policy, their room too, by a name that may be that of an element.
func spoil(p api.Policy, mark string) {
	for _, r := range []api.Rule{p.Html, p.Script, p.Url} {
		for _, l := range lists(r) {
			for i := range l {
				l[i] = mark
			}
		}
		for i := range r.Conf.Per[:cap(r.Conf.Per)] {
			r.Conf.Per[:cap(r.Conf.Per)][i] = per(mark, mark)
		}
	}
}

// policies are some of each kind of rules, with all lists filled that there are, some of them in one piece of memory.
func policies() []api.Policy {
	shared := []string{"b", "i", "id", "dir", "f()", "g()", "title"}
	list := shared[4:6]
	whole := api.Conf{Allow: true, AttrsAllow: true, Elements: shared[:1], Replace: shared[1:2], Attrs: shared[2:3], Per: []api.Per{per("b", shared[3:4]...), per("p", shared[6:]...)}, Comments: true, DataAttrs: true}
	twisted := whole
	twisted.Allow, twisted.AttrsAllow, twisted.DataAttrs, twisted.Elements = false, false, false, []string{"q", "p"}
	rule := func(kind int, c api.Conf) api.Rule { return api.Rule{Kind: kind, List: list, Conf: c} }
	var all []api.Policy
	for _, c := range []api.Conf{whole, twisted, {}, config.Plain(), config.All(), {DataAttrs: true, Attrs: shared}, {Elements: shared}} {
		for kind := -1; kind <= api.RuleKinds; kind++ {
			all = append(all, api.Policy{Name: "a", Html: rule(kind, c), Script: rule(4, c), Url: rule(1, c)}, api.Policy{Name: "default", Html: rule(kind, c), Script: rule(kind, c), Url: rule(4, twisted)})
		}
	}
	return all
}

// asked are texts that tell the rules of policies, and those spoilt, apart.
func asked() []string {
	return []string{"", "f()", "g()", "spare", "spoilt", "b", `<b id=1 dir=2 title=3 data-x=4 spoilt=5><i>x</i><!--y--></b>`, `<p id=1 dir=2 title=3 spare=4>z</p><q>w</q><spoilt spoilt=1>v</spoilt><spare>u</spare>`}
}

// R4, R5: Check and Apply change nothing of what is passed, the room behind it too, and do not look at that room.
func TestArguments(t *testing.T) {
	for i, p := range policies() {
		given := roomyPolicy(p)
		before := wholly(given)
		if e := Check(given); e != Check(p) {
			t.Errorf("%d: Check: %d with room", i, e)
		}
		for k, r := range []api.Rule{given.Html, given.Script, given.Url} {
			for _, s := range asked() {
				out, e := Apply(r, s)
				if want, wantE := Apply([]api.Rule{p.Html, p.Script, p.Url}[k], s); out != want || e != wantE {
					t.Errorf("%d: Apply of %q: %q, %d with room, %q, %d without", i, s, out, e, want, wantE)
				}
			}
		}
		if wholly(given) != before {
			t.Errorf("%d: changed what was passed: %s, before %s", i, wholly(given), before)
		}
	}
}

// R4: Check and Apply keep nothing: what is changed in a rule counts in the next call.
func TestRuleNotKept(t *testing.T) {
	r := listed("a", "b")
	if _, e := Apply(r, "a"); e != api.OK {
		t.Error(e)
	}
	r.List[0] = "c"
	if _, e := Apply(r, "a"); e != api.ErrPolicyText {
		t.Error(e)
	}
	if s, e := Apply(r, "c"); s != "c" || e != api.OK {
		t.Error(s, e)
	}
	p := api.Policy{Html: clean(api.Conf{Elements: []string{"b", "i"}})}
	for _, x := range []struct {
		name string
		want api.Errno
		text string
	}{{"b", 0, "<q>y</q>"}, {"i", 122, ""}, {"", 121, ""}, {"q", 0, "<b>x</b>"}} {
		p.Html.Conf.Elements[0] = x.name
		s, e := Apply(p.Html, "<b>x</b><i></i><q>y</q>")
		if Check(p) != x.want || s != x.text || e != x.want {
			t.Errorf("%q: %d, %q, %d", x.name, Check(p), s, e)
		}
	}
}

// R4: a factory changes nothing of a policy that is passed, be it taken or refused, whatever is done to the factory later.
func TestPolicyPassed(t *testing.T) {
	for i, p := range policies() {
		given := roomyPolicy(p)
		before := wholly(given)
		f := New(api.Guard{Any: true})
		f.Create(given)
		f.Create(given)
		answers(f, asked()...)
		state(f, asked()...)
		f.Make(0, api.SinkHtml, "<b id=1>")
		if wholly(given) != before {
			t.Errorf("%d: changed what was passed: %s, before %s", i, wholly(given), before)
		}
	}
}

// R4: a factory keeps nothing of a policy that is passed: what the caller does to its lists changes neither it nor a copy, made before or behind.
func TestPolicyNotKept(t *testing.T) {
	taken := 0
	for i, p := range policies() {
		for _, mark := range []string{"spoilt", "b", "f()", "q", ""} {
			for _, given := range []api.Policy{clonedPolicy(p), roomyPolicy(p)} {
				f := New(api.Guard{Any: true})
				if _, e := f.Create(given); e == api.OK {
					taken++
				}
				c := f.Copy()
				want, made := state(f, asked()...), answers(f, asked()...)
				spoil(given, mark)
				for _, one := range []*Factory{f, c, f.Copy(), c.Copy()} {
					if state(one, asked()...) != want || answers(one, asked()...) != made {
						t.Errorf("%d: changed by %q in what was passed", i, mark)
					}
				}
			}
		}
	}
	if taken < 100 {
		t.Errorf("%d policies are too few", taken)
	}
}

// R4: each list by itself, and each place in it: a change of it alone changes nothing in the factory, while a rule with this change answers otherwise.
func TestEachListNotKept(t *testing.T) {
	const all = `<b id=1 dir=2 title=3 data-x=4><i>x</i></b><q title=1 id=2>y</q>`
	whole := func() api.Policy {
		c := api.Conf{Allow: true, AttrsAllow: true, Elements: []string{"b", "q"}, Replace: []string{"i"}, Attrs: []string{"id"}, Per: []api.Per{per("b", "dir"), per("q", "title")}}
		return api.Policy{Name: "default", Html: clean(c), Script: listed("f()", "g()"), Url: listed("u", "v")}
	}
	for i, change := range []func(p *api.Policy){
		func(p *api.Policy) { p.Html.Conf.Elements[0] = "z" },
		func(p *api.Policy) { p.Html.Conf.Elements[1] = "z" },
		func(p *api.Policy) { p.Html.Conf.Replace[0] = "z" },
		func(p *api.Policy) { p.Html.Conf.Attrs[0] = "z" },
		func(p *api.Policy) { p.Html.Conf.Per[0].Element = "z" },
		func(p *api.Policy) { p.Html.Conf.Per[1].Element = "z" },
		func(p *api.Policy) { p.Html.Conf.Per[0].Attrs[0] = "z" },
		func(p *api.Policy) { p.Html.Conf.Per[1].Attrs[0] = "z" },
		func(p *api.Policy) { p.Html.Conf.Per[0], p.Html.Conf.Per[1] = api.Per{}, per("b") },
		func(p *api.Policy) { p.Script.List[0] = "z" },
		func(p *api.Policy) { p.Script.List[1] = "z" },
		func(p *api.Policy) { p.Url.List[0] = "z" },
		func(p *api.Policy) { p.Url.List[1] = "z" },
	} {
		p := whole()
		f := New(api.Guard{Any: true})
		f.Create(p)
		f.Make(0, api.SinkHtml, all)
		texts := []string{all, "f()", "g()", "u", "v", "z"}
		want, made := state(f, texts...), answers(f, texts...)
		change(&p)
		if state(f, texts...) != want || answers(f, texts...) != made {
			t.Errorf("%d: a change in what was passed changes the factory", i)
		}
		other := New(api.Guard{Any: true})
		other.Create(p)
		if answers(other, texts...) == made {
			t.Errorf("%d: this change is seen in no answer", i)
		}
	}
}

// R4: policies that share memory when they are passed do not share any with each other behind that.
func TestPoliciesApart(t *testing.T) {
	f := New(api.Guard{Any: true, Twice: true})
	list := []string{"f()", "g()"}
	p := api.Policy{Name: "a", Html: listed(list...), Script: listed(list...), Url: listed(list[1:]...)}
	for n := range 3 {
		list[0] = fmt.Sprint(n)
		p.Html.List, p.Script.List = list, list[:1]
		f.Create(p)
	}
	for n := range 3 {
		for sink := range api.SinkKinds {
			for k, s := range []string{fmt.Sprint(n), "g()", "f()", fmt.Sprint(n + 1)} {
				_, e := f.Make(n, sink, s)
				want := sink == api.SinkHtml && k < 2 || sink == api.SinkScript && k == 0 || sink == api.SinkUrl && k == 1
				if (e == api.OK) != want {
					t.Errorf("policy %d, sink %d, %q: %d", n, sink, s, e)
				}
			}
		}
	}
}

// R4: a guard's Names are neither changed nor kept, the room behind them included, by a factory and by its copies.
func TestNames(t *testing.T) {
	for _, names := range [][]string{nil, {}, {"a"}, {"a", "default"}, {"b", "a", "c", "default"}} {
		for _, g := range []api.Guard{{}, {Any: true}, {Twice: true}, {On: true, Report: true}} {
			g.Names = roomy(names, "spare")
			before := slices.Clone(g.Names[:cap(g.Names)])
			f := New(g)
			early := f.Copy()
			f.Create(api.Policy{Name: "a"})
			late := f.Copy()
			if !slices.Equal(g.Names[:cap(g.Names)], before) {
				t.Errorf("%q: changed to %q", before, g.Names[:cap(g.Names)])
			}
			for i := range g.Names[:cap(g.Names)] {
				g.Names[:cap(g.Names)][i] = "spoilt"
			}
			for i, one := range []*Factory{f, early, late, f.Copy(), early.Copy(), late.Copy()} {
				had := i != 1 && i != 4 && (g.Any || slices.Contains(names, "a"))
				for _, name := range []string{"a", "b", "c", "default", "spoilt", "spare"} {
					want := api.OK
					switch {
					case !g.Any && !slices.Contains(names, name):
						want = api.ErrPolicyName
					case name == "a" && had && !g.Twice:
						want = api.ErrPolicyTwice
					}
					if _, e := one.Create(api.Policy{Name: name}); e != want {
						t.Errorf("%q, %d: %q: %d, want %d", names, i, name, e, want)
					}
				}
			}
		}
	}
}

// R5: answers hang on nothing but what was done to the same factory: not on others, nor on earlier calls of Apply.
func TestOthers(t *testing.T) {
	run := func() string {
		f := New(api.Guard{Any: true, Twice: true})
		for _, p := range policies() {
			f.Create(p)
		}
		for i, s := range asked() {
			f.Make(i, 1+i%3, s)
		}
		return state(f, asked()...) + answers(f, asked()...)
	}
	want := run()
	for i, p := range policies() {
		other := New(api.Guard{Any: true})
		other.Create(p)
		other.Make(0, api.SinkUrl, "other")
		other.Try(api.SinkHtml, "f()")
		Apply(p.Html, "f()")
		if i%10 == 0 && run() != want {
			t.Errorf("%d: another answer than at first", i)
		}
	}
}
