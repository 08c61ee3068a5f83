package config

import (
	"fmt"
	"go/parser"
	"go/token"
	"math/rand/v2"
	"slices"
	"strings"
	"testing"

	"bolting/api"
	"bolting/names"
	"bolting/risk"
)

// The chapter's functions, as it gives them.
var (
	_ func(c api.Conf) api.Errno                  = Check
	_ func(c api.Conf) api.Conf                   = Canon
	_ func(c api.Conf, name string) int           = Element
	_ func(c api.Conf, element, attr string) bool = Attr
	_ func() api.Conf                             = Plain
	_ func() api.Conf                             = All
	_ func(c api.Conf) api.Conf                   = Strip
)

// hold holds Check to an outcome, and the outcome to the model.
func hold(t *testing.T, c api.Conf, want api.Errno) {
	t.Helper()
	if e := Check(c); e != want || e != wantCheck(c) {
		t.Errorf("Check of %s: %d, want %d, model %d", shown(c), e, want, wantCheck(c))
	}
}

// checkKeeps holds Element and Attr against the model, for all of these names.
func checkKeeps(t *testing.T, c api.Conf, elements, attrs []string) {
	t.Helper()
	for _, element := range elements {
		if is, want := Element(c, element), wantElement(c, element); is != want {
			t.Errorf("Element of %s, %q: %d, want %d", shown(c), element, is, want)
		}
		for _, attr := range attrs {
			if is, want := Attr(c, element, attr), wantAttr(c, element, attr); is != want {
				t.Errorf("Attr of %s, %q, %q: %t, want %t", shown(c), element, attr, is, want)
			}
		}
	}
}

// checkSame holds that a configuration keeps the same as another one.
func checkSame(t *testing.T, c, other api.Conf, elements, attrs []string) {
	t.Helper()
	if c.Comments != other.Comments {
		t.Errorf("%s and %s: comments", shown(c), shown(other))
	}
	for _, element := range elements {
		if Element(c, element) != Element(other, element) {
			t.Errorf("%s and %s: %q", shown(c), shown(other), element)
		}
		for _, attr := range attrs {
			if Attr(c, element, attr) != Attr(other, element, attr) {
				t.Errorf("%s and %s: %q of %q", shown(c), shown(other), attr, element)
			}
		}
	}
}

// checkCanon holds Canon against the model, and P12.5.
func checkCanon(t *testing.T, c api.Conf, elements, attrs []string) {
	t.Helper()
	canon := Canon(c)
	if is, want := shown(canon), shown(wantCanon(c)); is != want {
		t.Errorf("Canon of %s: %s, want %s", shown(c), is, want)
	}
	if again := shown(Canon(canon)); again != shown(canon) {
		t.Errorf("Canon of %s: %s, again %s", shown(c), shown(canon), again)
	}
	checkSame(t, canon, c, elements, attrs)
}

// checkStrip holds Strip against the model, and P12.5.
func checkStrip(t *testing.T, c api.Conf, elements, attrs []string) {
	t.Helper()
	strip := Strip(c)
	if is, want := shown(strip), shown(wantStrip(c)); is != want {
		t.Errorf("Strip of %s: %s, want %s", shown(c), is, want)
	}
	for _, name := range split(neverWords) {
		if Element(strip, name) != api.Gone {
			t.Errorf("Strip of %s: %q stays", shown(c), name)
		}
	}
	checkSame(t, strip, c, slices.DeleteFunc(slices.Clone(elements), never), attrs)
	for _, element := range elements {
		for _, attr := range attrs {
			if Attr(strip, element, attr) != Attr(c, element, attr) {
				t.Errorf("Strip of %s: %q of %q", shown(c), attr, element)
			}
		}
	}
	if Check(c) == api.OK {
		want := api.OK
		if len(strip.Elements) > api.MaxNames {
			want = api.ErrBig
		}
		hold(t, strip, want)
	}
}

// The names that the lists of small configurations have, and others.
var (
	someElements = strings.Fields("a b script iframe")
	allElements  = append(split(neverWords), "", "a", "b", "u", "A", "Script", "SCRIPT", "ab", "scrip", "scripts", "x", "a b", "\xff", "\x00")
	someAttrs    = strings.Fields("x data- data-z")
	allAttrs     = append(someAttrs, "", "y", "X", "data", "data-zz", "Data-z", "a", "onclick", "\xff")
)

// The chapter's examples.
func TestExamples(t *testing.T) {
	if Element(Plain(), "b") != api.Keep || Element(Plain(), "script") != api.Gone {
		t.Error("Element")
	}
	if !Attr(Plain(), "a", "href") || Attr(Plain(), "b", "href") {
		t.Error("Attr")
	}
}

// lists puts a list of names into each list of a configuration: which one it is, and whether its names are those of elements.
func lists(l []string, see func(which string, elements bool, c api.Conf)) {
	see("Elements", true, api.Conf{Elements: l})
	see("Replace", true, api.Conf{Replace: l})
	see("Attrs", false, api.Conf{Attrs: l})
	var with, without []api.Per
	for i, name := range l {
		with = append(with, per(name, "x", fmt.Sprint("y", i)))
		without = append(without, per(name))
	}
	see("Per with attributes", true, api.Conf{Per: with})
	see("Per", true, api.Conf{Per: without})
	for before := range 3 {
		for behind := range 3 {
			var p []api.Per
			for _, element := range many("before", before) {
				p = append(p, per(element, "x"))
			}
			p = append(p, per("p", l...))
			for _, element := range many("behind", behind) {
				p = append(p, per(element, "x"))
			}
			see(fmt.Sprintf("attributes of Per %d of %d", before, len(p)), false, api.Conf{Per: p})
		}
	}
}

// P12.1: lists of 64 names, and of others.
func TestSizes(t *testing.T) {
	for n, want := range map[int]api.Errno{0: api.OK, 1: api.OK, 2: api.OK, 63: api.OK, 64: api.OK, 65: api.ErrBig, 66: api.ErrBig, 128: api.ErrBig, 1000: api.ErrBig} {
		lists(many("n", n), func(which string, elements bool, c api.Conf) {
			hold(t, c, want)
		})
		// Names that may not be, and one name in all places: what is told first is the size.
		lists(many("N", n), func(which string, elements bool, c api.Conf) {
			if want == api.ErrBig {
				hold(t, c, api.ErrBig)
			} else if n > 0 {
				hold(t, c, api.ErrConfigName)
			}
		})
		lists(slices.Repeat([]string{"n"}, n), func(which string, elements bool, c api.Conf) {
			if want == api.ErrBig {
				hold(t, c, api.ErrBig)
			} else if n > 1 {
				hold(t, c, api.ErrConfigTwice)
			}
		})
	}
}

// full has 64 names in each list.
func full() api.Conf {
	c := api.Conf{Elements: many("e", 64), Replace: many("r", 64), Attrs: many("a", 64)}
	for _, element := range many("p", 64) {
		c.Per = append(c.Per, per(element, many("b", 64)...))
	}
	return c
}

// P12.1: all lists full at once; and one name more in one of them.
func TestFull(t *testing.T) {
	hold(t, full(), api.OK)
	for which, more := range map[string]func(c *api.Conf){
		"Elements": func(c *api.Conf) { c.Elements = append(c.Elements, "more") },
		"Replace":  func(c *api.Conf) { c.Replace = append(c.Replace, "more") },
		"Attrs":    func(c *api.Conf) { c.Attrs = append(c.Attrs, "more") },
		"Per":      func(c *api.Conf) { c.Per = append(c.Per, per("more")) },
	} {
		c := full()
		more(&c)
		if Check(c) != api.ErrBig {
			t.Errorf("one more in %s: %d", which, Check(c))
		}
		hold(t, c, api.ErrBig)
	}
	for i := range 64 {
		c := full()
		c.Per[i].Attrs = append(c.Per[i].Attrs, "more")
		hold(t, c, api.ErrBig)
	}
}

// Names that may be those of elements and attributes, of the one alone, of none.
var (
	bothMay     = []string{"a", "z", "h1", "x-y", "data-", "data-x", "onclick", "on", "a:b", "a.b", "a-", "a\x01", "a\x7f", "a\x0b", "a\xff", "a\xc3\xa4", "a[", "a@", "a`", "a{", "a?", "script"}
	elementsMay = []string{"a\"", "a'", "a<", "a=", "a=b"}
	attrsMay    = []string{"1", "1a", "-", "_", "\xff", "\xc3\xa4", "\x01", "\x7f", "`a", "{a", "@a", "[a", "&", "!"}
	noneMay     = []string{"", " ", "A", "aB", "Z", "a ", " a", "a b", "a\t", "a\n", "a\f", "a\r", "\x00", "a\x00", "\x00a", "/", "a/", "a>", ">", "a/b", "DATA-X", "onClick", "<", "=", "\"", "'"}
)

// may tells what Check says of a name that alone decides it.
func may(is bool) api.Errno {
	if is {
		return api.OK
	}
	return api.ErrConfigName
}

// P12.1: each of these names alone in each list, among others in front and behind, and in full lists.
func TestNames(t *testing.T) {
	try := func(name string, element, attr bool) {
		t.Helper()
		if names.Right(name) != element || names.Attr(name) != attr {
			t.Errorf("%q: %t, %t", name, names.Right(name), names.Attr(name))
		}
		for _, n := range []int{1, 2, 3, 5, 64} {
			for _, at := range []int{0, 1, 2, 3, 62, 63} {
				if at >= n {
					continue
				}
				l := many("n", n)
				l[at] = name
				lists(l, func(which string, elements bool, c api.Conf) {
					hold(t, c, may(elements && element || !elements && attr))
				})
			}
		}
	}
	for _, name := range bothMay {
		try(name, true, true)
	}
	for _, name := range elementsMay {
		try(name, true, false)
	}
	for _, name := range attrsMay {
		try(name, false, true)
	}
	for _, name := range noneMay {
		try(name, false, false)
	}
}

// P12.1: a name that may not be at each place of each list of a configuration that is full.
func TestNamesInFull(t *testing.T) {
	for i := range 64 {
		for _, spoil := range []func(c *api.Conf){
			func(c *api.Conf) { c.Elements[i] = "1" },
			func(c *api.Conf) { c.Replace[i] = "" },
			func(c *api.Conf) { c.Attrs[i] = "a=" },
			func(c *api.Conf) { c.Per[i].Element = "E" },
			func(c *api.Conf) { c.Per[i].Attrs[63-i] = "a b" },
			func(c *api.Conf) { c.Per[0].Attrs[i] = "" },
			func(c *api.Conf) { c.Per[63].Attrs[i] = "<" },
		} {
			c := full()
			spoil(&c)
			hold(t, c, api.ErrConfigName)
		}
	}
}

// P12.1: each byte as a name, and at each place of one.
func TestEachByte(t *testing.T) {
	for b := range 256 {
		s := string([]byte{byte(b)})
		for _, name := range []string{s, s + "a", "a" + s, "a" + s + "b", s + s, "data-" + s} {
			lists([]string{"other", name}, func(which string, elements bool, c api.Conf) {
				if elements {
					hold(t, c, may(names.Right(name)))
				} else {
					hold(t, c, may(names.Attr(name)))
				}
			})
		}
	}
}

// P12.1: a name in two places of one list, side by side and far apart.
func TestTwice(t *testing.T) {
	for _, n := range []int{2, 3, 7, 64} {
		for i := range n {
			for j := range i {
				if n == 64 && j > 1 && i < 62 && i-j > 1 {
					continue
				}
				l := many("n", n)
				l[i] = l[j]
				lists(l, func(which string, elements bool, c api.Conf) {
					hold(t, c, api.ErrConfigTwice)
				})
			}
		}
	}
	// Each place of a full configuration as the one before it.
	for i := 1; i < 64; i++ {
		for _, spoil := range []func(c *api.Conf){
			func(c *api.Conf) { c.Elements[i] = c.Elements[i-1] },
			func(c *api.Conf) { c.Replace[i] = c.Replace[0] },
			func(c *api.Conf) { c.Attrs[i] = c.Attrs[i/2] },
			func(c *api.Conf) { c.Per[i].Element = c.Per[i-1].Element },
			func(c *api.Conf) { c.Per[i].Attrs[i] = c.Per[i].Attrs[i-1] },
			func(c *api.Conf) { c.Per[0].Attrs[i] = c.Per[0].Attrs[0] },
		} {
			c := full()
			spoil(&c)
			hold(t, c, api.ErrConfigTwice)
		}
	}
}

// P12.1: what is not twice, outcomes written out.
func TestNotTwice(t *testing.T) {
	for _, c := range []api.Conf{
		{Per: pers(per("a", "x"), per("b", "x"))},
		{Per: pers(per("a", "x", "y"), per("b", "y", "x"), per("c", "x", "y"))},
		{Per: pers(per("x", "x"))},
		{Per: pers(per("a", "b"), per("b", "a"))},
		{Elements: []string{"a"}, Attrs: []string{"a"}},
		{Replace: []string{"a"}, Attrs: []string{"a"}},
		{Elements: []string{"a"}, Per: pers(per("a", "a"))},
		{Replace: []string{"a"}, Per: pers(per("a", "a"))},
		{Attrs: []string{"a"}, Per: pers(per("a", "x"))},
		{Elements: []string{"ab", "a", "b", "ba", "aa"}},
		{Attrs: []string{"a-", "a", "-a", "-"}},
		{Elements: []string{"a", "a\xff", "a\xef\xbf\xbd", "a\xfe"}},
		{Elements: []string{"a", "b"}, Replace: []string{"ab", "ba", "aa"}},
		{Attrs: []string{"a", "b"}, Per: pers(per("x", "ab", "ba"))},
		{Per: pers(per("a"), per("b"), per("c"))},
	} {
		bools(c, func(c api.Conf) {
			want := api.OK
			if c.DataAttrs && !c.AttrsAllow {
				want = api.ErrConfigBoth
			}
			hold(t, c, want)
		})
	}
	// With and without attributes, they are of one element.
	for _, p := range [][]api.Per{
		pers(per("a"), per("a")),
		pers(per("a", "x"), per("a")),
		pers(per("a"), per("a", "x")),
		pers(per("a", "x"), per("a", "x")),
		pers(per("a", "x"), per("a", "y")),
		pers(per("a", "x"), per("b", "x"), per("a", "y")),
	} {
		hold(t, api.Conf{Per: p}, api.ErrConfigTwice)
	}
}

// P12.1: an element in Elements and in Replace, an attribute in Attrs and in a Per, at each place of both.
func TestBoth(t *testing.T) {
	for _, n := range []int{1, 2, 3, 64} {
		for i := range n {
			for j := range n {
				if n == 64 && i > 1 && j < 62 && i != j {
					continue
				}
				c := api.Conf{Elements: many("e", n), Replace: many("r", n)}
				c.Elements[i] = c.Replace[j]
				hold(t, c, api.ErrConfigBoth)
				c = api.Conf{Attrs: many("a", n), Per: pers(per("p", "x"), per("q", many("b", n)...), per("r", "y"), per("s"))}
				hold(t, c, api.OK)
				for k, name := range []string{"x", c.Per[1].Attrs[j], "y"} {
					c.Attrs[i] = name
					hold(t, c, api.ErrConfigBoth)
					c.Per = append(c.Per[:0], c.Per[k])
					hold(t, c, api.ErrConfigBoth)
					c.Per = pers(per("p", "x"), per("q", many("b", n)...), per("r", "y"), per("s"))
				}
			}
		}
	}
	for i := range 64 {
		c := full()
		c.Replace[63-i] = c.Elements[i]
		hold(t, c, api.ErrConfigBoth)
		c = full()
		c.Per[i].Attrs[i] = c.Attrs[63-i]
		hold(t, c, api.ErrConfigBoth)
	}
}

// P12.1: DataAttrs without AttrsAllow.
func TestDataWithout(t *testing.T) {
	for _, c := range []api.Conf{{}, Plain(), All(), full()} {
		bools(c, func(c api.Conf) {
			want := api.OK
			if c.DataAttrs && !c.AttrsAllow {
				want = api.ErrConfigBoth
			}
			hold(t, c, want)
		})
	}
}

// ways are those in which each error can be brought about, such that others can be brought about beside it.
var ways = map[api.Errno][]func(c *api.Conf){
	api.ErrBig: {
		func(c *api.Conf) { c.Elements = append(c.Elements, many("big-e", 65)...) },
		func(c *api.Conf) { c.Replace = append(c.Replace, many("big-r", 65)...) },
		func(c *api.Conf) { c.Attrs = append(c.Attrs, many("big-a", 65)...) },
		func(c *api.Conf) {
			for _, element := range many("big-p", 65) {
				c.Per = append(c.Per, per(element))
			}
		},
		func(c *api.Conf) { c.Per = append(c.Per, per("big-q", many("big-b", 65)...)) },
	},
	api.ErrConfigName: {
		func(c *api.Conf) { c.Elements = append(c.Elements, "1") },
		func(c *api.Conf) { c.Replace = append(c.Replace, "2") },
		func(c *api.Conf) { c.Attrs = append(c.Attrs, "a b") },
		func(c *api.Conf) { c.Per = append(c.Per, per("3")) },
		func(c *api.Conf) { c.Per = append(c.Per, per("named", "a=b")) },
	},
	api.ErrConfigTwice: {
		func(c *api.Conf) { c.Elements = append(c.Elements, "twice-e", "twice-e") },
		func(c *api.Conf) { c.Replace = append(c.Replace, "twice-r", "twice-r") },
		func(c *api.Conf) { c.Attrs = append(c.Attrs, "twice-a", "twice-a") },
		func(c *api.Conf) { c.Per = append(c.Per, per("twice-p"), per("twice-p")) },
		func(c *api.Conf) { c.Per = append(c.Per, per("twice-q", "twice-b", "twice-b")) },
	},
	api.ErrConfigBoth: {
		func(c *api.Conf) {
			c.Elements, c.Replace = append(c.Elements, "both-e"), append(c.Replace, "both-e")
		},
		func(c *api.Conf) {
			c.Attrs, c.Per = append(c.Attrs, "both-a"), append(c.Per, per("both-p", "both-a"))
		},
		func(c *api.Conf) { c.DataAttrs = true },
	},
}

// P12.1, R2: where several errors apply, that which is named first: each two ways of all errors, of one too, in both orders, and one way of each error at once.
func TestOrder(t *testing.T) {
	for i, e := range order {
		for k, way := range ways[e] {
			var alone api.Conf
			way(&alone)
			hold(t, alone, e)
			others := slices.Clone(ways[e][k+1:])
			for _, later := range order[i+1:] {
				others = append(others, ways[later]...)
			}
			for _, other := range others {
				var c, reverse api.Conf
				way(&c)
				other(&c)
				hold(t, c, e)
				other(&reverse)
				way(&reverse)
				hold(t, reverse, e)
			}
		}
	}
	for from := range order {
		for pick := range 15 {
			var c api.Conf
			for _, e := range order[from:] {
				ways[e][pick%len(ways[e])](&c)
			}
			hold(t, c, order[from])
		}
	}
	// One list that is wrong in several ways.
	hold(t, api.Conf{Elements: slices.Repeat([]string{"1"}, 65), Replace: []string{"1"}}, api.ErrBig)
	hold(t, api.Conf{Elements: []string{"1", "1"}, Replace: []string{"1"}}, api.ErrConfigName)
	hold(t, api.Conf{Elements: []string{"a", "a"}, Replace: []string{"a"}}, api.ErrConfigTwice)
	hold(t, api.Conf{Attrs: []string{"a"}, Per: pers(per("p", "a", "a"))}, api.ErrConfigTwice)
}

// P12.2: outcomes written out.
func TestCanon(t *testing.T) {
	for _, x := range []struct{ c, want api.Conf }{
		{api.Conf{}, api.Conf{}},
		{api.Conf{Elements: []string{}, Per: []api.Per{}}, api.Conf{}},
		{api.Conf{Elements: []string{"a", "b", "c"}}, api.Conf{Elements: []string{"a", "b", "c"}}},
		{api.Conf{Elements: []string{"c", "b", "a"}}, api.Conf{Elements: []string{"a", "b", "c"}}},
		{api.Conf{Elements: []string{"b", "a", "b", "b", "a"}}, api.Conf{Elements: []string{"a", "b"}}},
		{api.Conf{Replace: []string{"b", "a", "b"}}, api.Conf{Replace: []string{"a", "b"}}},
		{api.Conf{Attrs: []string{"y", "x", "x"}}, api.Conf{Attrs: []string{"x", "y"}}},
		{api.Conf{Elements: []string{"", "b", "A", "\xff", "a", "", "\xc3\xa4"}}, api.Conf{Elements: []string{"", "A", "a", "b", "\xc3\xa4", "\xff"}}},
		{api.Conf{Per: pers(per("b", "x"), per("a", "y"))}, api.Conf{Per: pers(per("a", "y"), per("b", "x"))}},
		{api.Conf{Per: pers(per("a", "y", "x", "y"))}, api.Conf{Per: pers(per("a", "x", "y"))}},
		{api.Conf{Per: pers(per("a"))}, api.Conf{}},
		{api.Conf{Per: pers(per("b"), per("a", "x"), per("c"), per("a"))}, api.Conf{Per: pers(per("a", "x"))}},
		{api.Conf{Per: pers(per("a", ""))}, api.Conf{Per: pers(per("a", ""))}},
		{api.Conf{Per: pers(per("", "x"), per("b"), per("", "w"))}, api.Conf{Per: pers(per("", "x"), per("", "w"))}},
		{
			api.Conf{Per: pers(per("b", "z"), per("a", "q"), per("b", "y"), per("a", "p"), per("b", "x"), per("a", "q"))},
			api.Conf{Per: pers(per("a", "q"), per("a", "p"), per("a", "q"), per("b", "z"), per("b", "y"), per("b", "x"))},
		},
		{
			api.Conf{Elements: []string{"b", "a"}, Replace: []string{"b", "a"}, Attrs: []string{"b", "a"}, Per: pers(per("b", "b", "a"))},
			api.Conf{Elements: []string{"a", "b"}, Replace: []string{"a", "b"}, Attrs: []string{"a", "b"}, Per: pers(per("b", "a", "b"))},
		},
	} {
		bools(x.c, func(c api.Conf) {
			x.want.Allow, x.want.AttrsAllow, x.want.Comments, x.want.DataAttrs = c.Allow, c.AttrsAllow, c.Comments, c.DataAttrs
			if is := shown(Canon(c)); is != shown(x.want) {
				t.Errorf("Canon of %s: %s, want %s", shown(c), is, shown(x.want))
			}
			checkCanon(t, c, allElements, allAttrs)
		})
	}
}

// P12.3: Element, outcomes written out.
func TestElement(t *testing.T) {
	c := api.Conf{Elements: []string{"a", "b"}, Replace: []string{"c", "b"}}
	for _, x := range []struct {
		name        string
		with, other int
	}{
		{"a", api.Keep, api.Gone},
		{"b", api.Replaced, api.Replaced},
		{"c", api.Replaced, api.Replaced},
		{"d", api.Gone, api.Keep},
		{"", api.Gone, api.Keep},
		{"A", api.Gone, api.Keep},
		{"C", api.Gone, api.Keep},
		{"ab", api.Gone, api.Keep},
		{"a ", api.Gone, api.Keep},
		{"script", api.Gone, api.Keep},
	} {
		bools(c, func(c api.Conf) {
			want := x.other
			if c.Allow {
				want = x.with
			}
			if is := Element(c, x.name); is != want {
				t.Errorf("Element of %s, %q: %d, want %d", shown(c), x.name, is, want)
			}
			// Attributes and those of this element change nothing.
			c.Attrs, c.Per = []string{x.name}, pers(per(x.name, x.name))
			if is := Element(c, x.name); is != want {
				t.Errorf("Element of %s, %q: %d, want %d", shown(c), x.name, is, want)
			}
		})
	}
	bools(api.Conf{Elements: []string{""}}, func(c api.Conf) {
		if Element(c, "") == api.Keep != c.Allow || Element(c, "x") == api.Keep == c.Allow {
			t.Error(shown(c))
		}
	})
}

// P12.3: Attr, outcomes written out.
func TestAttr(t *testing.T) {
	c := api.Conf{Attrs: []string{"id", "data-k"}, Per: pers(per("a", "href", "x"), per("b", "src"), per("a", "y", "data-m"), per("c"))}
	for _, x := range []struct {
		element, attr string
		named, data   bool
	}{
		{"a", "id", true, false},
		{"b", "id", true, false},
		{"z", "id", true, false},
		{"", "id", true, false},
		{"a", "href", true, false},
		{"b", "href", false, false},
		{"A", "href", false, false},
		{"", "href", false, false},
		{"a", "HREF", false, false},
		{"a", "hre", false, false},
		{"a", "hrefx", false, false},
		{"a", "x", true, false},
		{"a", "y", true, false},
		{"b", "y", false, false},
		{"b", "src", true, false},
		{"a", "src", false, false},
		{"c", "href", false, false},
		{"c", "src", false, false},
		{"c", "", false, false},
		{"a", "", false, false},
		{"a", "data-k", true, true},
		{"z", "data-k", true, true},
		{"a", "data-m", true, true},
		{"b", "data-m", false, true},
		{"b", "data-x", false, true},
		{"b", "data--", false, true},
		{"b", "data-\x00", false, true},
		{"b", "data-\n", false, true},
		{"b", "data-\xff", false, true},
		{"b", "data-data-", false, true},
		{"b", "data-", false, false},
		{"b", "data", false, false},
		{"b", "dat", false, false},
		{"b", "dataX-x", false, false},
		{"b", "data_x", false, false},
		{"b", "Data-x", false, false},
		{"b", "DATA-x", false, false},
		{"b", "xdata-x", false, false},
		{"b", " data-x", false, false},
		{"b", "-data-x", false, false},
		{"b", "a-data-x", false, false},
		{"b", "onclick", false, false},
	} {
		bools(c, func(c api.Conf) {
			want := !x.named
			if c.AttrsAllow {
				want = x.named || c.DataAttrs && x.data
			}
			if is := Attr(c, x.element, x.attr); is != want {
				t.Errorf("Attr of %s, %q, %q: %t, want %t", shown(c), x.element, x.attr, is, want)
			}
			// What becomes of the element changes nothing.
			c.Elements, c.Replace = []string{x.element, "a"}, []string{"b", x.element}
			if is := Attr(c, x.element, x.attr); is != want {
				t.Errorf("Attr of %s, %q, %q: %t, want %t", shown(c), x.element, x.attr, is, want)
			}
			checkKeeps(t, c, []string{x.element}, []string{x.attr})
		})
	}
}

// P12.3: each byte at each place of what a data attribute begins with, and behind it.
func TestEachByteOfData(t *testing.T) {
	c := api.Conf{AttrsAllow: true, DataAttrs: true}
	for b := range 256 {
		s := string([]byte{byte(b)})
		if !Attr(c, "a", "data-"+s) || Attr(c, "a", s+"data-x") || Attr(c, "a", s) {
			t.Errorf("%q", s)
		}
		for i := range "data-" {
			name := "data-"[:i] + s + "data-"[i+1:]
			if is, want := Attr(c, "a", name+"x"), name == "data-"; is != want {
				t.Errorf("Attr of %q: %t", name+"x", is)
			}
			if Attr(c, "a", name) {
				t.Errorf("Attr of %q", name)
			}
			if other := "data-"[:i] + s + "data-"[i:]; Attr(c, "a", other) != wantAttr(c, "a", other) {
				t.Errorf("Attr of %q", other)
			}
		}
	}
}

// P12.3: a name at each place of each list.
func TestEachPlace(t *testing.T) {
	for i := range 64 {
		bools(full(), func(c api.Conf) {
			checkKeeps(t, c, []string{c.Elements[i], c.Replace[i], c.Per[i].Element, "other"}, []string{c.Attrs[i], c.Per[i].Attrs[i], c.Per[i].Attrs[63-i], "other", "data-x"})
			if Element(c, c.Replace[i]) != api.Replaced || Element(c, c.Elements[i]) == api.Keep != c.Allow || Attr(c, "other", c.Attrs[i]) != c.AttrsAllow || Attr(c, c.Per[i].Element, c.Per[i].Attrs[i]) != c.AttrsAllow || Attr(c, "other", c.Per[i].Attrs[i]) == c.AttrsAllow {
				t.Errorf("at %d of %s", i, shown(c))
			}
		})
	}
}

// P12.4: All and Plain as the chapter lists them.
func TestAllAndPlain(t *testing.T) {
	if is := shown(All()); is != shown(api.Conf{Comments: true}) {
		t.Error(is)
	}
	if is := shown(Plain()); is != shown(wantPlain()) {
		t.Error(is)
	}
	// What is written out in the order of the chapter is sorted, and nothing in it is twice or never safe.
	if is := shown(Canon(Plain())); is != shown(wantPlain()) {
		t.Error(is)
	}
	if is := shown(Strip(Plain())); is != shown(wantPlain()) {
		t.Error(is)
	}
	c := Plain()
	if len(c.Elements) != 36 || len(c.Attrs) != 8 || len(c.Per) != 3 || c.Replace != nil && len(c.Replace) > 0 || c.Comments || c.DataAttrs || !c.Allow || !c.AttrsAllow {
		t.Error(shown(c))
	}
	words := append(slices.Concat(split(elementWords), allElements), "link", "style", "svg", "template", "h7", "form", "input", "video")
	attrs := append(slices.Concat(split(attrWords), allAttrs), "href", "src", "colspan", "rowspan", "style", "srcdoc")
	for _, element := range words {
		if (Element(c, element) == api.Keep) != slices.Contains(split(elementWords), element) || Element(All(), element) != api.Keep {
			t.Errorf("%q", element)
		}
		for _, attr := range attrs {
			own := element == "a" && attr == "href" || element == "img" && attr == "src" || element == "td" && (attr == "colspan" || attr == "rowspan")
			if Attr(c, element, attr) != (own || slices.Contains(split(attrWords), attr)) || !Attr(All(), element, attr) {
				t.Errorf("%q of %q", attr, element)
			}
		}
	}
	for _, c := range []api.Conf{Plain(), All(), Canon(Plain()), Strip(Plain()), Strip(All()), Canon(Strip(All()))} {
		hold(t, c, api.OK)
		checkCanon(t, c, words, attrs)
		checkStrip(t, c, words, attrs)
	}
}

// P12.4: Strip, outcomes written out.
func TestStrip(t *testing.T) {
	all := split(neverWords)
	for _, x := range []struct{ c, want api.Conf }{
		{api.Conf{Allow: true}, api.Conf{Allow: true}},
		{api.Conf{}, api.Conf{Elements: all}},
		{api.Conf{Elements: []string{}}, api.Conf{Elements: all}},
		{api.Conf{Allow: true, Elements: all, Replace: all}, api.Conf{Allow: true}},
		{api.Conf{Elements: all, Replace: all}, api.Conf{Elements: all}},
		{api.Conf{Replace: all}, api.Conf{Elements: all}},
		{api.Conf{Allow: true, Elements: []string{"b", "script", "a", "base", "b"}}, api.Conf{Allow: true, Elements: []string{"b", "a", "b"}}},
		{api.Conf{Allow: true, Replace: []string{"b", "script", "a", "base", "b"}}, api.Conf{Allow: true, Replace: []string{"b", "a", "b"}}},
		{api.Conf{Replace: []string{"b", "script", "a", "base", "b"}}, api.Conf{Elements: all, Replace: []string{"b", "a", "b"}}},
		{
			api.Conf{Elements: []string{"b", "script", "a", "base", "b", "script"}},
			api.Conf{Elements: []string{"b", "script", "a", "base", "b", "script", "embed", "frame", "iframe", "link", "meta", "object"}},
		},
		{
			api.Conf{Elements: []string{"object", "meta", "link", "iframe", "frame", "embed"}},
			api.Conf{Elements: []string{"object", "meta", "link", "iframe", "frame", "embed", "base", "script"}},
		},
		{api.Conf{Allow: true, Elements: []string{"Script", "scripts", "scrip", "SCRIPT", "", "style"}}, api.Conf{Allow: true, Elements: []string{"Script", "scripts", "scrip", "SCRIPT", "", "style"}}},
		{api.Conf{Elements: []string{"Script", "BASE"}}, api.Conf{Elements: append([]string{"Script", "BASE"}, all...)}},
		// Attributes stay, in their order, also those of elements that are never safe.
		{
			api.Conf{Attrs: []string{"y", "script", "x", "y"}, Per: pers(per("script", "src"), per("b"), per("a", "y", "x", "y"), per("a", "object"))},
			api.Conf{Elements: all, Attrs: []string{"y", "script", "x", "y"}, Per: pers(per("script", "src"), per("b"), per("a", "y", "x", "y"), per("a", "object"))},
		},
		{
			api.Conf{Allow: true, Attrs: []string{"y", "base"}, Per: pers(per("script", "src"), per("b"))},
			api.Conf{Allow: true, Attrs: []string{"y", "base"}, Per: pers(per("script", "src"), per("b"))},
		},
	} {
		bools(x.c, func(c api.Conf) {
			c.Allow = x.c.Allow
			x.want.AttrsAllow, x.want.Comments, x.want.DataAttrs = c.AttrsAllow, c.Comments, c.DataAttrs
			if is := shown(Strip(c)); is != shown(x.want) {
				t.Errorf("Strip of %s: %s, want %s", shown(c), is, shown(x.want))
			}
			checkStrip(t, c, allElements, allAttrs)
		})
	}
}

// P12.4: the elements that are never safe, of those that risk.Element knows.
func TestNeverSafe(t *testing.T) {
	if is := Strip(All()).Elements; !slices.Equal(is, split(neverWords)) {
		t.Error(is)
	}
	for _, element := range slices.Concat(allElements, split(elementWords), split(neverWords)) {
		if is := risk.Element(element); is != never(element) || is != slices.Contains(Strip(All()).Elements, element) {
			t.Errorf("%q: %t", element, is)
		}
	}
}

// P12.4: each element that is never safe in Elements, in Replace, in both and in none, in front of others, among and behind them.
func TestStripEach(t *testing.T) {
	put := func(name string, at int) []string {
		l := []string{"x", "y"}
		if at < 0 {
			return l
		}
		return slices.Insert(l, at, name)
	}
	for _, name := range split(neverWords) {
		for inElements := -1; inElements <= 2; inElements++ {
			for inReplace := -1; inReplace <= 2; inReplace++ {
				c := api.Conf{Allow: true, Elements: put(name, inElements), Replace: put(name, inReplace)}
				if is := Strip(c); !slices.Equal(is.Elements, []string{"x", "y"}) || !slices.Equal(is.Replace, []string{"x", "y"}) {
					t.Errorf("Strip of %s: %s", shown(c), shown(is))
				}
				checkStrip(t, c, allElements, allAttrs)
				c.Allow = false
				want := slices.Concat(c.Elements, split(neverWords))
				if inElements >= 0 {
					want = slices.Concat(c.Elements, slices.DeleteFunc(split(neverWords), func(s string) bool { return s == name }))
				}
				if is := Strip(c); !slices.Equal(is.Elements, want) || !slices.Equal(is.Replace, []string{"x", "y"}) {
					t.Errorf("Strip of %s: %s", shown(c), shown(is))
				}
				checkStrip(t, c, allElements, allAttrs)
			}
		}
	}
}

// P12.4, P12.5: all sets of elements that are never safe, in both lists.
func TestStripSets(t *testing.T) {
	set := func(bits int) []string {
		l := []string{"b"}
		for i, name := range split(neverWords) {
			if bits>>i&1 > 0 {
				l = append(l, name)
			}
		}
		return append(l, "a")
	}
	for elements := range 256 {
		for replace := range 256 {
			if elements*7%16 != replace%16 {
				continue
			}
			for _, allow := range []bool{true, false} {
				c := api.Conf{Allow: allow, Elements: set(elements), Replace: set(replace)}
				checkStrip(t, c, allElements, nil)
				c.Elements[0] = "c"
				c.Replace = c.Replace[:len(c.Replace)-1]
				checkStrip(t, c, allElements, nil)
			}
		}
	}
}

// P12.5: what Strip makes of long lists that Check accepts is accepted, unless there are too many names.
func TestStripLong(t *testing.T) {
	for _, x := range []struct {
		n     int
		more  []string
		allow bool
		want  api.Errno
	}{
		{56, nil, false, api.OK},
		{57, nil, false, api.ErrBig},
		{56, []string{"script"}, false, api.OK},
		{57, []string{"script"}, false, api.ErrBig},
		{55, []string{"script", "base"}, false, api.OK},
		{56, split(neverWords), false, api.OK},
		{64, nil, false, api.ErrBig},
		{64, nil, true, api.OK},
		{56, split(neverWords), true, api.OK},
	} {
		c := api.Conf{Allow: x.allow, Elements: append(many("e", x.n), x.more...), Replace: many("r", 64)}
		hold(t, c, api.OK)
		hold(t, Strip(c), x.want)
		checkStrip(t, c, allElements, nil)
		if x.allow && len(Strip(c).Elements) != x.n || !x.allow && len(Strip(c).Elements) != x.n+8 {
			t.Error(x.n, x.more, len(Strip(c).Elements))
		}
	}
	c := full()
	for i, name := range split(neverWords) {
		c.Replace[i*9] = name
	}
	hold(t, c, api.OK)
	checkStrip(t, c, allElements, nil)
	c.Allow = true
	checkStrip(t, c, allElements, nil)
}

// P12.1 to P12.5: all small lists of elements, in Elements and in Replace.
func TestSmallElements(t *testing.T) {
	l := listsOf(someElements, 3)
	for _, elements := range l {
		for i, replace := range l {
			for _, allow := range []bool{true, false} {
				c := api.Conf{Allow: allow, Elements: elements, Replace: replace, Comments: i%2 > 0}
				hold(t, c, wantCheck(c))
				checkKeeps(t, c, allElements, nil)
				checkCanon(t, c, allElements, nil)
				checkStrip(t, c, allElements, nil)
			}
		}
	}
}

// P12.1 to P12.5: all small lists of attributes, in Attrs and in Per.
func TestSmallAttributes(t *testing.T) {
	attrs := listsOf(someAttrs, 2)
	var some []api.Per
	for _, element := range []string{"b", "a"} {
		for _, l := range listsOf([]string{"x", "data-z"}, 2) {
			some = append(some, per(element, l...))
		}
	}
	elements := []string{"a", "b", "u", "", "A"}
	for _, p := range persOf(some, 2) {
		for _, l := range attrs {
			for bits := range 4 {
				c := api.Conf{Attrs: l, Per: p, AttrsAllow: bits&1 > 0, DataAttrs: bits&2 > 0}
				hold(t, c, wantCheck(c))
				checkKeeps(t, c, elements, allAttrs)
				checkCanon(t, c, elements, allAttrs)
				checkStrip(t, c, elements, allAttrs)
			}
		}
	}
}

// P12.2: all lists of up to five of some Per, so that those of one element stand in each order.
func TestOrderOfPer(t *testing.T) {
	for _, p := range persOf(pers(per("b", "z"), per("b", "y"), per("a", "x"), per("c"), per("a", "z", "x")), 5) {
		checkCanon(t, api.Conf{Per: p}, nil, nil)
	}
	// Many of few elements, as those that are not sorted in one piece would be.
	var l []api.Per
	for i := range 1000 {
		l = append(l, per(string(rune('a'+i*7%10)), fmt.Sprint("x", i)))
	}
	checkCanon(t, api.Conf{Per: l}, nil, nil)
	slices.Reverse(l)
	checkCanon(t, api.Conf{Per: l}, nil, nil)
}

// randomNames are up to n of pool, at times with one that may not be.
func randomNames(r *rand.Rand, pool []string, n int) []string {
	var l []string
	for range r.IntN(n + 1) {
		l = append(l, pool[r.IntN(len(pool))])
	}
	if r.IntN(12) == 0 {
		l = append(l, noneMay[r.IntN(len(noneMay))])
	}
	return l
}

// shuffled are n of pool, each at most once.
func shuffled(r *rand.Rand, pool []string, n int) []string {
	l := slices.Clone(pool)
	r.Shuffle(len(l), func(i, j int) { l[i], l[j] = l[j], l[i] })
	return l[:min(n, len(l))]
}

func randomConf(r *rand.Rand) api.Conf {
	elements := slices.Concat(split(neverWords), split(elementWords), many("e", 30))
	attrs := slices.Concat(split(attrWords), allAttrs, many("data-", 20), many("a", 40))
	names := randomNames
	if r.IntN(2) == 0 {
		names = shuffled
	}
	c := api.Conf{Allow: r.IntN(2) == 0, AttrsAllow: r.IntN(4) > 0, Comments: r.IntN(2) == 0, DataAttrs: r.IntN(3) == 0}
	c.Elements, c.Attrs = names(r, elements, r.IntN(70)), names(r, attrs, r.IntN(30))
	c.Replace = names(r, elements, r.IntN(5))
	for _, element := range names(r, elements, r.IntN(8)) {
		c.Per = append(c.Per, per(element, names(r, attrs, r.IntN(5))...))
	}
	return c
}

// P12.1 to P12.5: random configurations, against the model.
func TestRandom(t *testing.T) {
	told := map[api.Errno]int{}
	for seed := range uint64(3000) {
		c := randomConf(rand.New(rand.NewPCG(seed, 12)))
		elements := slices.Concat(allElements, c.Elements, c.Replace, elementsOf(c.Per))
		attrs := slices.Clone(allAttrs)
		for _, p := range c.Per {
			attrs = append(attrs, p.Attrs...)
		}
		hold(t, c, wantCheck(c))
		told[Check(c)]++
		checkKeeps(t, c, elements, attrs)
		checkCanon(t, c, elements, attrs)
		checkStrip(t, c, elements, attrs)
	}
	for _, e := range append(order, api.OK) {
		if told[e] < 20 {
			t.Errorf("error %d: of %d configurations alone", e, told[e])
		}
	}
}

// R1: long lists and long names, on which a function that takes time by the square would not end in time.
func TestLong(t *testing.T) {
	const n = 1 << 18
	var c api.Conf
	c.Elements, c.Replace, c.Attrs = many("e", n), many("r", n), many("a", n)
	for i, element := range many("p", n) {
		c.Per = append(c.Per, per(element, c.Attrs[i], "x"))
	}
	if Check(c) != api.ErrBig {
		t.Error("Check")
	}
	canon, strip := Canon(c), Strip(c)
	if len(canon.Elements) != n || len(canon.Per) != n || len(strip.Elements) != n+8 || len(strip.Per) != n {
		t.Error("lists")
	}
	if shown(canon) != shown(wantCanon(c)) {
		t.Error("Canon")
	}
	if Element(c, c.Replace[n-1]) != api.Replaced || Element(c, c.Elements[n-1]) != api.Gone || Attr(c, c.Per[n-1].Element, "x") || !Attr(c, "e0", "x") {
		t.Error("keeps")
	}
	long := strings.Repeat("x", 1<<20)
	c = api.Conf{AttrsAllow: true, DataAttrs: true}
	for i := range 64 {
		c.Elements = append(c.Elements, long+fmt.Sprint(i))
		c.Attrs = append(c.Attrs, long+fmt.Sprint(i))
	}
	if Check(c) != api.OK || !Attr(c, long, "data-"+long) || Attr(c, long, long) || !Attr(c, "a", c.Attrs[63]) {
		t.Error("long names")
	}
}

// The chapter: the package imports api, fold, names and risk.
func TestImports(t *testing.T) {
	f, err := parser.ParseFile(token.NewFileSet(), "config.go", nil, parser.ImportsOnly)
	if err != nil {
		t.Fatal(err)
	}
	may := []string{`"bolting/api"`, `"bolting/fold"`, `"bolting/names"`, `"bolting/risk"`}
	for _, x := range f.Imports {
		if !slices.Contains(may, x.Path.Value) {
			t.Errorf("imports %s", x.Path.Value)
		}
	}
}
