package header

import (
	"go/parser"
	"go/token"
	"math"
	"math/rand/v2"
	"slices"
	"strconv"
	"strings"
	"testing"

	"bolting/api"
)

const (
	letters = "ABCDEFGHIJKLMNOPQRSTUVWXYZabcdefghijklmnopqrstuvwxyz"
	digits  = "0123456789"
	// marks are what may stand in a policy's name besides letters and digits.
	marks  = "-#=_/@.%"
	spaces = "\x09\x0a\x0c\x0d\x20"
)

func one(c int) string { return string([]byte{byte(c)}) }

// check holds Parts and Parse against the second reading for one header.
func check(t *testing.T, s string) {
	t.Helper()
	if l, want := Parts(s), wantParts(s); !sameParts(l, want) {
		t.Errorf("Parts(%q): %q, want %q", s, l, want)
	}
	for _, report := range []bool{false, true} {
		if g, want := shown(Parse(s, report)), shown(wantParse(s, report)); g != want {
			t.Errorf("Parse(%q, %t): %s, want %s", s, report, g, want)
		}
	}
}

// P15.1: outcomes written out.
func TestParts(t *testing.T) {
	for _, x := range []struct {
		s    string
		want [][]string
	}{
		{"", nil},
		{" ", nil},
		{";", nil},
		{";;;", nil},
		{"\t\n\f\r ", nil},
		{" ; \t;\n\f ;\r", nil},
		{"a", split("a")},
		{"A", split("a")},
		{"a b", split("a b")},
		{"a b c d", split("a b c d")},
		{"  a\t\tb \n c\r\f", split("a b c")},
		{"A B c", split("a B c")},
		{"ABC AbC A'B' Z", split("abc AbC A'B' Z")},
		{"a;b", split("a", "b")},
		{"b;a", split("b", "a")},
		{"b c;a d", split("b c", "a d")},
		{"a;", split("a")},
		{";a", split("a")},
		{";a;", split("a")},
		{"a;;b", split("a", "b")},
		{"a ; ; b", split("a", "b")},
		{";;a;;;b;;", split("a", "b")},
		{" ; a b ;c d; ", split("a b", "c d")},
		{"a b;c d;e f", split("a b", "c d", "e f")},
		{"A b c ;; a d;E\n", split("a b c", "e")},
		{"a a a", split("a a a")},
		{"a b b", split("a b b")},
		{"a b;b a", split("a b", "b a")},
		{"a,b c", split("a,b c")},
		{"a:b 'c' \"d;e\"", split("a:b 'c' \"d", "e\"")},
		{"'A' 'A'", split("'a' 'A'")},
		{"a\\;b", split("a\\", "b")},
		{"a&#59;b", split("a&#59", "b")},
		{"a%3Bb", split("a%3bb")},
		{"a=B c=D", split("a=b c=D")},
		{"@A[Z` @A[Z`", split("@a[z` @A[Z`")},
		{"1;2;1", split("1", "2")},
		{"\x00", split("\x00")},
		{"\x00;\x00", split("\x00")},
		{"a\vb c\x1fd", split("a\vb c\x1fd")},
		{"\xc3\x84B \xc3\x84B", split("\xc3\x84b \xc3\x84B")},
		{"\xc3\x84;\xc3\xa4", split("\xc3\x84", "\xc3\xa4")},
		{"\xff\x80 \xff", split("\xff\x80 \xff")},
		{"\xc1\xda;\xe1\xfa", split("\xc1\xda", "\xe1\xfa")},
		{"\xe2\x84\xaa;k;\xc4\xb1;i", split("\xe2\x84\xaa", "k", "\xc4\xb1", "i")},
		{"a\xc2\xa0b c\xe2\x80\x83d", split("a\xc2\xa0b c\xe2\x80\x83d")},
		{"\x85a\xa0", split("\x85a\xa0")},
		{"a\xef\xbc\x9bb", split("a\xef\xbc\x9bb")},
		{"Trusted-Types a b 'allow-duplicates'; require-trusted-types-for 'script'", split("trusted-types a b 'allow-duplicates'", "require-trusted-types-for 'script'")},
	} {
		if l := Parts(x.s); !sameParts(l, x.want) {
			t.Errorf("Parts(%q): %q, want %q", x.s, l, x.want)
		}
	}
}

// P15.1: of two and of three with one name the first one alone, whatever the case of its letters, and whatever its values.
func TestFirstAlone(t *testing.T) {
	for s, want := range map[string][][]string{
		"a;a":                         split("a"),
		"a;a b":                       split("a"),
		"a b;a":                       split("a b"),
		"a b;a c":                     split("a b"),
		"a b;A c":                     split("a b"),
		"A b;a c":                     split("a b"),
		"A b;A c":                     split("a b"),
		"a b;a c;a d":                 split("a b"),
		"Ab 1;aB 2;AB 3;ab 4":         split("ab 1"),
		"a;b;a;b":                     split("a", "b"),
		"a 1;b 2;B 3;A 4;c 5;C 6":     split("a 1", "b 2", "c 5"),
		"a;b a;a c":                   split("a", "b a"),
		"b a;a b":                     split("b a", "a b"),
		"b a;b;a":                     split("b a", "a"),
		"a;aa;a;aa b;aaa":             split("a", "aa", "aaa"),
		"ab;a b":                      split("ab", "a b"),
		"a b;ab":                      split("a b", "ab"),
		"a;;a;;;a":                    split("a"),
		" a ;\tA\n; \r a ;b":          split("a", "b"),
		"a ;a;b;a":                    split("a", "b"),
		"\xc3\x84B x;\xc3\x84b y":     split("\xc3\x84b x"),
		"\xc3\x84 x;\xc3\xa4 y":       split("\xc3\x84 x", "\xc3\xa4 y"),
		"a-B 'C';A-b 'D';a-b":         split("a-b 'C'"),
		"@;`;[;{":                     split("@", "`", "[", "{"),
		"TRUSTED-TYPES;trusted-t":     split("trusted-types", "trusted-t"),
		"\xff;\xff\xff;\xff":          split("\xff", "\xff\xff"),
		"a\x00;a;a\x00 b":             split("a\x00", "a"),
		"k;\xe2\x84\xaa;K;s;\xc5\xbf": split("k", "\xe2\x84\xaa", "s", "\xc5\xbf"),
	} {
		if l := Parts(s); !sameParts(l, want) {
			t.Errorf("Parts(%q): %q, want %q", s, l, want)
		}
	}
}

// P15.1: each of the spaces, and each two of them, between and around words.
func TestEachSpace(t *testing.T) {
	want, types := split("a B", "c D"), split("trusted-types a b", "require-trusted-types-for 'script'")
	for _, x := range spaces {
		for _, y := range spaces {
			for _, gap := range []string{string(x), string(x) + string(y)} {
				for _, form := range []string{"A B;C D", " A B;C D", "A B ;C D", "A B; C D", "A B;C D ", " A  B ; C  D ", ";A B; ;C D; "} {
					s := strings.ReplaceAll(form, " ", gap)
					if l := Parts(s); !sameParts(l, want) {
						t.Errorf("Parts(%q): %q", s, l)
					}
				}
				s := strings.ReplaceAll(" trusted-types a b ; require-trusted-types-for 'script' ", " ", gap)
				if l := Parts(s); !sameParts(l, types) {
					t.Errorf("Parts(%q): %q", s, l)
				}
				if g := shown(Parse(s, false)); g != shown(api.Guard{On: true, Names: []string{"a", "b"}}) {
					t.Errorf("Parse(%q): %s", s, g)
				}
			}
		}
	}
}

// P15.1: each byte in each place: some divide words or directives, and great letters of names become small ones, while those of values stay.
func TestEachByte(t *testing.T) {
	for c := range 256 {
		b := one(c)
		low := b
		if 'A' <= c && c <= 'Z' {
			low = one(c + 32)
		}
		places := map[string][][]string{
			b:               split(low),
			b + "x":         split(low + "x"),
			"x" + b:         split("x" + low),
			"x" + b + "y":   split("x" + low + "y"),
			"x " + b:        split("x " + b),
			"x Y" + b:       split("x Y" + b),
			"x " + b + "y":  split("x " + b + "y"),
			"x Y" + b + "z": split("x Y" + b + "z"),
		}
		switch {
		case strings.Contains(spaces, b):
			places = map[string][][]string{
				b: nil, b + "x": split("x"), "x" + b: split("x"), "x" + b + "y": split("x y"),
				"x " + b: split("x"), "x Y" + b: split("x Y"), "x " + b + "y": split("x y"), "x Y" + b + "z": split("x Y z"),
			}
		case b == ";":
			places = map[string][][]string{
				b: nil, b + "x": split("x"), "x" + b: split("x"), "x" + b + "y": split("x", "y"),
				"x " + b: split("x"), "x Y" + b: split("x Y"), "x " + b + "y": split("x", "y"), "x Y" + b + "z": split("x Y", "z"),
			}
		}
		for s, want := range places {
			if l := Parts(s); !sameParts(l, want) {
				t.Errorf("Parts(%q): %q, want %q", s, l, want)
			}
		}
	}
}

// checkGuard holds Parse against an outcome written out, with report false and true.
func checkGuard(t *testing.T, s string, want api.Guard) {
	t.Helper()
	for _, report := range []bool{false, true} {
		want.Report = report
		if g := shown(Parse(s, report)); g != shown(want) {
			t.Errorf("Parse(%q, %t): %s, want %s", s, report, g, shown(want))
		}
	}
}

// P15.2: headers without either directive.
func TestNothingAsked(t *testing.T) {
	for _, s := range []string{
		"",
		";",
		" ; \t;",
		"a b",
		"; ;a b;",
		"'script'",
		"*",
		"x 'script'",
		"x trusted-types a",
		"trusted-type a",
		"trusted-typess a",
		"trusted-types: a",
		"'trusted-types' a",
		"trusted_types a",
		"trusted types a",
		"trusted-types\x00 a",
		"\xe2\x80\x83trusted-types a",
		"require-trusted-types 'script'",
	} {
		checkGuard(t, s, api.Guard{Any: true, Twice: true})
	}
}

// P15.2: headers whose directive require-trusted-types-for has the value 'script'.
func TestOn(t *testing.T) {
	for _, s := range []string{
		"require-trusted-types-for 'script' ",
		"require-trusted-types-for 'script'",
		"require-trusted-types-for x 'script'",
		"require-trusted-types-for 'script' x",
		"require-trusted-types-for x 'script' y",
		"require-trusted-types-for 'script' 'script'",
		"require-trusted-types-for 'Script' 'script'",
		"require-trusted-types-for\t'script'\n",
		"Require-Trusted-Types-For 'script'",
		"REQUIRE-TRUSTED-TYPES-FOR x\t'script'",
		"a;require-trusted-types-for 'script';b",
		"require-trusted-types-for 'script' a *",
		"require-trusted-types-for 'script' 'none'",
		"require-trusted-types-for 'script' 'allow-duplicates'",
		"require-trusted-types-for 'script';require-trusted-types-for",
		"require-trusted-types-for 'script';Require-Trusted-Types-For 'x'",
	} {
		checkGuard(t, s, api.Guard{On: true, Any: true, Twice: true})
	}
}

// P15.2: headers that have one without this value, or another one that is like it.
func TestNotOn(t *testing.T) {
	for _, s := range []string{
		"x require-trusted-types-for 'script'",
		"require-trusted-types-for",
		"require-trusted-types-for ;'script'",
		"require-trusted-types-for 'Script'",
		"require-trusted-types-for 'SCRIPT'",
		"require-trusted-types-for script",
		"require-trusted-types-for 'script",
		"require-trusted-types-for script'",
		"require-trusted-types-for ''script''",
		"require-trusted-types-for \"script\"",
		"require-trusted-types-for `script`",
		"require-trusted-types-for ' script'",
		"require-trusted-types-for 'script','style'",
		"require-trusted-types-for 'scripts'",
		"require-trusted-types-for 'none'",
		"require-trusted-types-for *",
		"require-trusted-types-for'script'",
		"require-trusted-types-for-x 'script'",
		"require-trusted-types-for;require-trusted-types-for 'script'",
		"require-trusted-types-for x;REQUIRE-trusted-types-for 'script'",
	} {
		checkGuard(t, s, api.Guard{Any: true, Twice: true})
	}
}

// P15.2: headers with a directive trusted-types.
func TestTypes(t *testing.T) {
	for s, want := range map[string]api.Guard{
		"trusted-types":                              {},
		"trusted-types ;a":                           {},
		"trusted-types 'none'":                       {},
		"trusted-types 'NONE'":                       {},
		"trusted-types 'script'":                     {},
		"trusted-types 'Allow-Duplicates'":           {},
		"trusted-types 'ALLOW-DUPLICATES'":           {},
		"trusted-types 'allow-duplicates":            {},
		"trusted-types 'allow-duplicate'":            {},
		"trusted-types \"allow-duplicates\"":         {},
		"trusted-types '*'":                          {},
		"trusted-types **":                           {},
		"trusted-types a*":                           {},
		"trusted-types *a *,":                        {},
		"trusted-types *":                            {Any: true},
		"trusted-types * *":                          {Any: true},
		"trusted-types 'allow-duplicates'":           {Twice: true},
		"trusted-types 'allow-duplicates' * 'none'":  {Any: true, Twice: true},
		"trusted-types * 'allow-duplicates'":         {Any: true, Twice: true},
		"trusted-types * 'none'":                     {Any: true},
		"trusted-types 'none' a":                     {Names: []string{"a"}},
		"trusted-types none":                         {Names: []string{"none"}},
		"trusted-types allow-duplicates":             {Names: []string{"allow-duplicates"}},
		"trusted-types a":                            {Names: []string{"a"}},
		"trusted-types a b":                          {Names: []string{"a", "b"}},
		"trusted-types b a":                          {Names: []string{"b", "a"}},
		"trusted-types a a":                          {Names: []string{"a"}},
		"trusted-types b a b a c b":                  {Names: []string{"b", "a", "c"}},
		"trusted-types a A":                          {Names: []string{"a", "A"}},
		"trusted-types ab a b":                       {Names: []string{"ab", "a", "b"}},
		"trusted-types default":                      {Names: []string{"default"}},
		"trusted-types trusted-types":                {Names: []string{"trusted-types"}},
		"trusted-types a;b":                          {Names: []string{"a"}},
		"trusted-types a,b c":                        {Names: []string{"c"}},
		"trusted-types a!b A-1#=_/@.%z \xc3\xa4":     {Names: []string{"A-1#=_/@.%z"}},
		"trusted-types a\x00 b\xff \xc3\xa4c d\vd e": {Names: []string{"e"}},
		"trusted-types 'a' \"b\" c+ d$ (e) [f] {g} ~h |i \\j ^k `l` <m> &n :o ?p !q r": {Names: []string{"r"}},
		"trusted-types - # = _ / @ . % 0 9":                                            {Names: []string{"-", "#", "=", "_", "/", "@", ".", "%", "0", "9"}},
		"trusted-types %":                                                              {Names: []string{"%"}},
		"trusted-types -- a.b/c":                                                       {Names: []string{"--", "a.b/c"}},
		"TRUSTED-TYPES A":                                                              {Names: []string{"A"}},
		"tRUSTED-tYPES a":                                                              {Names: []string{"a"}},
		" trusted-types\ta\nb\fc\rd ":                                                  {Names: []string{"a", "b", "c", "d"}},
		"trusted-types a *":                                                            {Any: true, Names: []string{"a"}},
		"trusted-types * a":                                                            {Any: true, Names: []string{"a"}},
		"trusted-types a 'allow-duplicates' b a":                                       {Names: []string{"a", "b"}, Twice: true},
		"trusted-types a * 'allow-duplicates' a b *":                                   {Names: []string{"a", "b"}, Any: true, Twice: true},
		"trusted-types a;trusted-types b":                                              {Names: []string{"a"}},
		"trusted-types;trusted-types b *":                                              {},
		"trusted-types a;Trusted-Types * 'allow-duplicates'":                           {Names: []string{"a"}},
		"trusted-types *;trusted-types a":                                              {Any: true},
		"trusted-types 'allow-duplicates';TRUSTED-TYPES *;trusted-types a":             {Twice: true},
	} {
		checkGuard(t, s, want)
	}
}

// P15.2: headers with both directives, in either order, and with one among the values of the other.
func TestBoth(t *testing.T) {
	for s, want := range map[string]api.Guard{
		"trusted-types a;require-trusted-types-for 'script'":                       {On: true, Names: []string{"a"}},
		"require-trusted-types-for 'script';trusted-types a":                       {On: true, Names: []string{"a"}},
		"trusted-types a 'script';require-trusted-types-for b":                     {Names: []string{"a"}},
		"require-trusted-types-for * 'allow-duplicates' a;trusted-types b":         {Names: []string{"b"}},
		"trusted-types;require-trusted-types-for 'script'":                         {On: true},
		"require-trusted-types-for 'script';trusted-types":                         {On: true},
		"require-trusted-types-for;trusted-types * 'allow-duplicates'":             {Any: true, Twice: true},
		"require-trusted-types-for 'script' trusted-types a":                       {On: true, Any: true, Twice: true},
		"trusted-types a require-trusted-types-for 'script'":                       {Names: []string{"a", "require-trusted-types-for"}},
		"x y;trusted-types a;z;require-trusted-types-for 'script';x":               {On: true, Names: []string{"a"}},
		"Trusted-types a b 'allow-duplicates'; require-trusted-types-for 'script'": {On: true, Names: []string{"a", "b"}, Twice: true},
	} {
		checkGuard(t, s, want)
	}
}

// P15.2, P15.3: each byte as a name, and at each place of one.
func TestEachByteOfName(t *testing.T) {
	for c := range 256 {
		b := one(c)
		may := strings.Contains(letters+digits+marks, b)
		for _, name := range []string{b, b + "x", "x" + b, "x" + b + "y", b + b} {
			if is := Allows(api.Guard{Any: true}, name, 0); is != may {
				t.Errorf("Allows of %q with Any: %t", name, is)
			}
			if is := Allows(api.Guard{Names: []string{"z", name}}, name, 0); is != may {
				t.Errorf("Allows of %q in Names: %t", name, is)
			}
			if strings.Contains(spaces+";", b) || name == "*" {
				continue
			}
			// With a name of three letters beside it, which none of these is.
			want := api.Guard{Names: []string{"zzz"}}
			if may {
				want.Names = []string{name, "zzz"}
			}
			s := "trusted-types " + name + " zzz " + name
			if g := shown(Parse(s, false)); g != shown(want) {
				t.Errorf("Parse(%q): %s, want %s", s, g, shown(want))
			}
		}
	}
	all := letters + digits + marks
	if g := Parse("trusted-types "+all, false); !slices.Equal(g.Names, []string{all}) || !Allows(g, all, 0) {
		t.Errorf("all that may stand in a name: %s", shown(g))
	}
}

// P15.3: outcomes written out.
func TestAllows(t *testing.T) {
	for i, x := range []struct {
		g    api.Guard
		name string
		had  int
		want bool
	}{
		{api.Guard{}, "", 0, false},
		{api.Guard{}, "a", 0, false},
		{api.Guard{}, "a", -1, false},
		{api.Guard{On: true, Report: true}, "a", 0, false},
		{api.Guard{Twice: true}, "a", 0, false},
		{api.Guard{Twice: true}, "a", 1, false},
		{api.Guard{Any: true}, "a", 0, true},
		{api.Guard{Any: true}, "a", 1, false},
		{api.Guard{Any: true}, "a", 2, false},
		{api.Guard{Any: true}, "a", math.MaxInt, false},
		{api.Guard{Any: true}, "a", -1, true},
		{api.Guard{Any: true}, "a", math.MinInt, true},
		{api.Guard{Any: true, Twice: true}, "a", 0, true},
		{api.Guard{Any: true, Twice: true}, "a", 1, true},
		{api.Guard{Any: true, Twice: true}, "a", math.MaxInt, true},
		{api.Guard{Any: true, Twice: true}, "", 0, false},
		{api.Guard{Any: true, Twice: true}, "a b", 0, false},
		{api.Guard{Any: true, Twice: true}, "a;b", 0, false},
		{api.Guard{Any: true, Twice: true}, " a", 0, false},
		{api.Guard{Any: true, Twice: true}, "*", 0, false},
		{api.Guard{Any: true, Twice: true}, "'none'", 0, false},
		{api.Guard{Any: true, Twice: true}, "'allow-duplicates'", 0, false},
		{api.Guard{Any: true, Twice: true}, "\xc3\xa4", 0, false},
		{api.Guard{Any: true, Twice: true}, "a\x00", 0, false},
		{api.Guard{Any: true}, "default", 0, true},
		{api.Guard{Any: true, Names: []string{"a"}}, "b", 0, true},
		{api.Guard{Any: true, Names: []string{"a"}}, "a", 0, true},
		{api.Guard{Names: []string{"a"}}, "a", 0, true},
		{api.Guard{Names: []string{"a"}}, "A", 0, false},
		{api.Guard{Names: []string{"A"}}, "a", 0, false},
		{api.Guard{Names: []string{"a"}}, "aa", 0, false},
		{api.Guard{Names: []string{"aa"}}, "a", 0, false},
		{api.Guard{Names: []string{"a"}}, "b", 0, false},
		{api.Guard{Names: []string{"a"}}, "a", 1, false},
		{api.Guard{Names: []string{"a"}}, "a", -5, true},
		{api.Guard{Names: []string{"a"}, Twice: true}, "a", 1, true},
		{api.Guard{Names: []string{"a"}, Twice: true}, "b", 1, false},
		{api.Guard{Names: []string{"c", "b", "a"}}, "a", 0, true},
		{api.Guard{Names: []string{"c", "b", "a"}}, "b", 0, true},
		{api.Guard{Names: []string{"c", "b", "a"}}, "c", 0, true},
		{api.Guard{Names: []string{"a", "a"}}, "a", 1, false},
		{api.Guard{Names: []string{"", "a b", "*", "'x'"}}, "", 0, false},
		{api.Guard{Names: []string{"", "a b", "*", "'x'"}}, "a b", 0, false},
		{api.Guard{Names: []string{"", "a b", "*", "'x'"}}, "*", 0, false},
		{api.Guard{Names: []string{"", "a b", "*", "'x'"}}, "'x'", 0, false},
		{api.Guard{Names: []string{"*"}}, "a", 0, false},
		{Parse("Trusted-types a b 'allow-duplicates'; require-trusted-types-for 'script'", false), "b", 1, true},
		{Parse("Trusted-types a b 'allow-duplicates'; require-trusted-types-for 'script'", false), "c", 0, false},
		{Parse("", false), "a", 5, true},
		{Parse("trusted-types", false), "a", 0, false},
	} {
		if is := Allows(x.g, x.name, x.had); is != x.want {
			t.Errorf("%d: Allows(%s, %q, %d): %t", i, shown(x.g), x.name, x.had, is)
		}
	}
}

// nameLists are lists of names, also of those that a guard's can't be when they are parsed.
func nameLists() [][]string {
	return [][]string{nil, {}, {"a"}, {"b"}, {"a", "b"}, {"b", "a", "a"}, {"A", "ab"}, {"", "*", "a b", "'none'"}, {"a!", "\xff", "-#=_/@.%"}, {"default", "c"}}
}

// someNames are names that are in these lists or not, valid or not.
func someNames() []string {
	return []string{"", "a", "A", "b", "ab", "c", "d", "*", "a b", "'none'", "a!", "\xff", "-#=_/@.%", "default", "0"}
}

// P15.3, P15.4: all guards of some lists of names, with some names; what is allowed stays so with Any or Twice.
func TestAllGuards(t *testing.T) {
	for _, names := range nameLists() {
		guards(names, func(g api.Guard) {
			for _, name := range someNames() {
				for _, had := range []int{math.MinInt, -2, -1, 0, 1, 2, 3, math.MaxInt} {
					is := Allows(g, name, had)
					if against := hindrances(g, name, had); is != (len(against) == 0) {
						t.Errorf("Allows(%s, %q, %d): %t, %q", shown(g), name, had, is, against)
					}
					any, twice := g, g
					any.Any, twice.Twice = true, true
					if is && !(Allows(any, name, had) && Allows(twice, name, had)) {
						t.Errorf("%q, %d: allowed by %s, not with Any or Twice in addition", name, had, shown(g))
					}
				}
			}
		})
	}
}

// headers are some that say different things.
func headers() []string {
	return []string{
		"",
		"a",
		"a B;c D e",
		"trusted-types",
		"trusted-types *",
		"trusted-types a",
		"trusted-types Ab cD 'allow-duplicates' Ab",
		"trusted-types 'none' a!b",
		"require-trusted-types-for 'script'",
		"require-trusted-types-for 'Script' x",
		"require-trusted-types-for 'script';trusted-types a B",
		"x;trusted-types * 'allow-duplicates' q;require-trusted-types-for;y Z",
		"trusted-types\xc3\x84 a;\xff b;require-trusted-types-for 'script'",
	}
}

// checkSame tells whether a header makes no difference to another one.
func checkSame(t *testing.T, s, other string) {
	t.Helper()
	if a, b := Parts(s), Parts(other); !sameParts(a, b) {
		t.Errorf("Parts(%q): %q, while of %q %q", other, b, s, a)
	}
	for _, report := range []bool{false, true} {
		a, b := Parse(s, report), Parse(other, report)
		if shown(a) != shown(b) {
			t.Errorf("Parse(%q): %s, while of %q %s", other, shown(b), s, shown(a))
		}
		for _, name := range []string{"a", "Ab", "nope", "a!b", ""} {
			for had := range 2 {
				if Allows(a, name, had) != Allows(b, name, had) {
					t.Errorf("Allows of %q, %d: not the same of %q and of %q", name, had, s, other)
				}
			}
		}
	}
}

// renamed is a header with what change makes of the name of each directive; they begin with it.
func renamed(s string, change func(name string) string) string {
	directives := strings.Split(s, ";")
	for i, d := range directives {
		name, values, found := strings.Cut(d, " ")
		directives[i] = change(name)
		if found {
			directives[i] += " " + values
		}
	}
	return strings.Join(directives, ";")
}

// upper is a text with great letters (ASCII), the other bytes as they are.
func upper(s string) string {
	out := []byte(s)
	for i, c := range out {
		if 'a' <= c && c <= 'z' {
			out[i] = c - 32
		}
	}
	return string(out)
}

// P15.4: the case of the name of a directive makes no difference: of all its letters, and of each one.
func TestCaseOfNames(t *testing.T) {
	for _, s := range headers() {
		checkSame(t, s, renamed(s, upper))
		for at := range 30 {
			only := func(name string) string {
				if at >= len(name) {
					return name
				}
				return name[:at] + upper(name[at:at+1]) + name[at+1:]
			}
			behind := func(name string) string { return name[:min(at, len(name))] + upper(name[min(at, len(name)):]) }
			checkSame(t, s, renamed(s, only))
			checkSame(t, s, renamed(s, behind))
		}
	}
	const small = "trusted-types"
	for which := range 1 << len(small) {
		name := []byte(small)
		for i := range name {
			if which>>i&1 == 1 {
				name[i] = upper(small)[i]
			}
		}
		checkSame(t, small+" a B;"+"x", string(name)+" a B;X;"+small)
	}
}

// P15.1, P15.2: the case of values makes a difference.
func TestCaseOfValues(t *testing.T) {
	if g := Parse("trusted-types aB Ab", false); !slices.Equal(g.Names, []string{"aB", "Ab"}) || Allows(g, "ab", 0) || Allows(g, "AB", 0) || !Allows(g, "aB", 0) {
		t.Errorf("names: %s", shown(g))
	}
	for _, x := range []struct{ directive, value string }{{"require-trusted-types-for", "'script'"}, {"trusted-types", "'allow-duplicates'"}} {
		is := func(value string) bool {
			g := Parse(x.directive+" "+value, false)
			return g.On || x.directive == "trusted-types" && g.Twice
		}
		if !is(x.value) {
			t.Errorf("%s %s", x.directive, x.value)
		}
		for i := range x.value {
			other := x.value[:i] + upper(x.value[i:i+1]) + x.value[i+1:]
			if other != x.value && is(other) {
				t.Errorf("%s %s is taken for %s", x.directive, other, x.value)
			}
			for _, off := range []string{x.value[:i] + x.value[i+1:], x.value[:i] + "x" + x.value[i:], x.value[:i] + "'" + x.value[i:], x.value[:i] + " " + x.value[i:], x.value[:i] + ";" + x.value[i:]} {
				// A blank or a ';' ahead of the value leaves it what it is, or takes it from the directive.
				if is(off) && off != " "+x.value {
					t.Errorf("%s %s is taken for %s", x.directive, off, x.value)
				}
			}
		}
	}
}

// P15.4: surrounding spaces and empty directives make no difference.
func TestSurrounded(t *testing.T) {
	blanks := []string{" ", "\t", "\n", "\f", "\r", " \t\r\n\f "}
	empties := []string{";", ";;", "; ;", " ; ", ";\t;\r\n;", "\f;"}
	for _, s := range headers() {
		directives := strings.Split(s, ";")
		for _, x := range blanks {
			for _, y := range blanks {
				checkSame(t, s, x+strings.Join(directives, x+";"+y)+y)
			}
			checkSame(t, s, x+s)
			checkSame(t, s, s+x)
			checkSame(t, s, strings.ReplaceAll(s, ";", x+";"))
			checkSame(t, s, strings.ReplaceAll(s, ";", ";"+x))
			checkSame(t, s, strings.ReplaceAll(s, " ", x))
		}
		for _, x := range empties {
			checkSame(t, s, x+s)
			checkSame(t, s, s+x)
			checkSame(t, s, strings.ReplaceAll(s, ";", x))
			checkSame(t, s, x+strings.ReplaceAll(s, ";", x)+x)
			for i := range directives {
				checkSame(t, s, strings.Join(slices.Insert(slices.Clone(directives), i, x), ";"))
			}
		}
	}
}

// P15.4: a second and a third directive with a name that was there make no difference, wherever behind the first one.
func TestRepeated(t *testing.T) {
	values := []string{"", " *", " z", " 'script'", " 'allow-duplicates' * y", " 'none'"}
	for _, s := range headers()[1:] {
		directives := strings.Split(s, ";")
		for i, d := range directives {
			name, _, _ := strings.Cut(d, " ")
			for at := i + 1; at <= len(directives); at++ {
				for _, v := range values {
					before, behind := strings.Join(directives[:at], ";"), strings.Join(directives[at:], ";")
					checkSame(t, s, before+";"+name+v+";"+behind)
					checkSame(t, s, before+";"+upper(name)+v+";"+behind)
					checkSame(t, s, before+";"+upper(name)+" w;"+name+v+";"+behind)
					checkSame(t, s, before+";"+name+v+";"+behind+";"+upper(name)+" w")
				}
			}
		}
		checkSame(t, s, s+";"+s)
		checkSame(t, s, s+";"+renamed(s, upper)+";"+s)
	}
}

// P15.1, P15.2: all short headers of the words that matter.
func TestAllHeaders(t *testing.T) {
	pieces := []string{"trusted-types ", "Trusted-TYPES\t", "require-trusted-types-for ", ";", "'script' ", "* ", "'allow-duplicates'\n", "a ", "a!b ", "A"}
	for _, s := range textsOf(pieces, 5) {
		check(t, s)
	}
}

// P15.1, P15.2: all short texts of the bytes that matter, alone and within directives.
func TestAllTexts(t *testing.T) {
	for _, s := range textsOf([]string{";", " ", "\n", "\v", "a", "A", "b", "*", "\xff"}, 5) {
		check(t, s)
	}
	for _, s := range textsOf([]string{";", " ", "\t", "a", "*", "'", "%"}, 4) {
		check(t, "trusted-types"+s)
		check(t, "trusted-types a"+s+"b")
		check(t, "x;trusted-types "+s+";y")
		check(t, "require-trusted-types-for "+s+"'script'")
		check(t, "require-trusted-types-for 'script'"+s)
	}
}

// P15.1, P15.2: headers a byte more, fewer or changed off some.
func TestOneByteOff(t *testing.T) {
	for _, s := range []string{"trusted-types a 'allow-duplicates' *", "require-trusted-types-for 'script'", "A b;a c", "trusted-types a;TRUSTED-types b"} {
		for i := 0; i <= len(s); i++ {
			if i < len(s) {
				check(t, s[:i]+s[i+1:])
			}
			for c := range 256 {
				check(t, s[:i]+one(c)+s[i:])
				if i < len(s) {
					check(t, s[:i]+one(c)+s[i+1:])
				}
			}
		}
	}
}

// P15.1, P15.2: longer headers at random, by seeds that are always the same.
func TestRandom(t *testing.T) {
	pieces := []string{
		"trusted-types", "Trusted-Types", "require-trusted-types-for", "REQUIRE-trusted-types-for", "a", "B", "b", "c-1", "default", "x!", "\xc3\xa4", "\x00",
		"'script'", "'allow-duplicates'", "'none'", "*", " ", " ", " ", " ", "\t", "\n", "\f", "\r", " ", ";", ";", ";", "; ", " ;",
	}
	for seed := range uint64(20000) {
		r := rand.New(rand.NewPCG(seed, 15))
		var b strings.Builder
		for range r.IntN(60) {
			b.WriteString(pieces[r.IntN(len(pieces))])
			if r.IntN(2) == 0 {
				b.WriteByte(' ')
			}
		}
		check(t, b.String())
	}
}

// P15.1 to P15.3: long headers, on which a function that takes time by the square would not end in time.
func TestLong(t *testing.T) {
	const n = 1 << 19
	if Parts(strings.Repeat(";", n)) != nil || Parts(strings.Repeat(" ;\t", n)) != nil {
		t.Error("nothing but ';'")
	}
	var different, numbers strings.Builder
	for i := range n {
		different.WriteString("N" + strconv.Itoa(i) + " V;")
		numbers.WriteString(" " + strconv.Itoa(i))
	}
	l := Parts(different.String() + different.String())
	if len(l) != n || !slices.Equal(l[n-1], []string{"n" + strconv.Itoa(n-1), "V"}) {
		t.Error("different names")
	}
	if l := Parts(strings.Repeat("a b;A;", n)); !sameParts(l, split("a b")) {
		t.Error("one name")
	}
	if l := Parts(strings.Repeat("a ", n)); len(l) != 1 || len(l[0]) != n {
		t.Error("many values")
	}
	if l := Parts(strings.Repeat("Ab", n)); !sameParts(l, split(strings.Repeat("ab", n))) {
		t.Error("a long name")
	}
	g := Parse("trusted-types"+numbers.String()+numbers.String()+" 'allow-duplicates';require-trusted-types-for"+numbers.String()+" 'script'", true)
	if len(g.Names) != n || g.Names[n-1] != strconv.Itoa(n-1) || !g.On || !g.Twice || g.Any || !g.Report {
		t.Error("many names")
	}
	if !Allows(g, strconv.Itoa(n-1), 1) || Allows(g, strconv.Itoa(n), 0) {
		t.Error("Allows of many names")
	}
	long := strings.Repeat("x", n)
	if !Allows(api.Guard{Any: true}, long, 0) || Allows(api.Guard{Any: true}, long+"!", 0) {
		t.Error("Allows of long names")
	}
}

// The chapter: the package imports api and fold.
func TestImports(t *testing.T) {
	f, err := parser.ParseFile(token.NewFileSet(), "header.go", nil, parser.ImportsOnly)
	if err != nil {
		t.Fatal(err)
	}
	for _, x := range f.Imports {
		if x.Path.Value != `"bolting/api"` && x.Path.Value != `"bolting/fold"` {
			t.Errorf("imports %s", x.Path.Value)
		}
	}
}
