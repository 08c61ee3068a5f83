package fold

import (
	"go/parser"
	"go/token"
	"slices"
	"strconv"
	"strings"
	"testing"
)

const (
	capitals = "ABCDEFGHIJKLMNOPQRSTUVWXYZ"
	smalls   = "abcdefghijklmnopqrstuvwxyz"
	spaces   = "\x09\x0a\x0c\x0d\x20"
)

// wantLower is the chapter's Lower, by the two rows of letters alone.
func wantLower(s string) string {
	var b strings.Builder
	for i := range len(s) {
		if k := strings.IndexByte(capitals, s[i]); k >= 0 {
			b.WriteByte(smalls[k])
		} else {
			b.WriteByte(s[i])
		}
	}
	return b.String()
}

// wantWords divides s at every space and leaves out the empty parts.
func wantWords(s string) []string {
	for i := range len(spaces) {
		s = strings.ReplaceAll(s, spaces[i:i+1], " ")
	}
	return slices.DeleteFunc(strings.Split(s, " "), func(w string) bool { return w == "" })
}

// textsOf are all texts of at most n of the bytes of from.
func textsOf(from string, n int) []string {
	all := []string{""}
	for start := 0; n > 0; n-- {
		end := len(all)
		for _, s := range all[start:end] {
			for i := range len(from) {
				all = append(all, s+from[i:i+1])
			}
		}
		start = end
	}
	return all
}

// listsOf are all lists of at most n of the names of from, sorted ones and others, with names more than once.
func listsOf(from []string, n int) [][]string {
	all := [][]string{nil}
	for start := 0; n > 0; n-- {
		end := len(all)
		for _, l := range all[start:end] {
			for _, s := range from {
				all = append(all, append(slices.Clone(l), s))
			}
		}
		start = end
	}
	return all
}

// P2.1: each of the 256 bytes, alone and within a text.
func TestEachByte(t *testing.T) {
	for i := range 256 {
		c := byte(i)
		s := string([]byte{c})
		want := wantLower(s)
		if u := Lower(s); u != want {
			t.Errorf("Lower(%q): %q, want %q", s, u, want)
		}
		if u := Lower("X" + s + "y" + s); u != "x"+want+"y"+want {
			t.Errorf("Lower with %q within: %q", s, u)
		}
		if is := strings.IndexByte(spaces, c) >= 0; Space(c) != is {
			t.Errorf("Space(%q): %t", s, !is)
		}
		if is := strings.IndexByte(capitals+smalls, c) >= 0; Letter(c) != is {
			t.Errorf("Letter(%q): %t", s, !is)
		}
		for k := range 256 {
			o := string([]byte{byte(k)})
			if is := want == wantLower(o); Same(s, o) != is || Same("a"+s, "A"+o) != is {
				t.Errorf("Same(%q, %q): want %t", s, o, is)
			}
		}
	}
}

// P2.1: outcomes written out.
func TestLower(t *testing.T) {
	for _, x := range []struct{ s, want string }{
		{"", ""},
		{"aB\xc3\x84", "ab\xc3\x84"},
		{capitals, smalls},
		{smalls, smalls},
		{"@AZ[`az{", "@az[`az{"},
		{"0-9_:\x00\x7f", "0-9_:\x00\x7f"},
		{"\xc3\x84\xc3\xa4\xff\x80", "\xc3\x84\xc3\xa4\xff\x80"},
		{"\xc1\xda\xe1\xfa", "\xc1\xda\xe1\xfa"},
		{"\xe2\x84\xaa\xc4\xb0", "\xe2\x84\xaa\xc4\xb0"},
		{"OnClick=X", "onclick=x"},
	} {
		if u := Lower(x.s); u != x.want || Lower(u) != u {
			t.Errorf("Lower(%q): %q, want %q", x.s, u, x.want)
		}
	}
}

// P2.1: what Same takes for one, and what it does not.
func TestSame(t *testing.T) {
	for _, x := range []struct {
		a, b string
		want bool
	}{
		{"", "", true},
		{"abc", "ABC", true},
		{"aBc", "AbC", true},
		{"a-1", "A-1", true},
		{"\xc3\x84x", "\xc3\x84X", true},
		{"", "a", false},
		{"a", "ab", false},
		{"ab", "A", false},
		{"ab", "ba", false},
		{"a", "a ", false},
		{"\xc3\x84", "\xc3\xa4", false},
		{"@", "`", false},
		{"[", "{", false},
		{"\xc1", "\xe1", false},
		{"k", "\xe2\x84\xaa", false},
		{"A\x00", "a", false},
	} {
		if Same(x.a, x.b) != x.want || Same(x.b, x.a) != x.want {
			t.Errorf("Same(%q, %q): want %t", x.a, x.b, x.want)
		}
	}
}

// P2.2: outcomes written out.
func TestTrimAndWords(t *testing.T) {
	for _, x := range []struct {
		s, trim string
		words   []string
	}{
		{"", "", nil},
		{" ", "", nil},
		{spaces, "", nil},
		{spaces + spaces, "", nil},
		{"a", "a", []string{"a"}},
		{" a  b ", "a  b", []string{"a", "b"}},
		{"a b", "a b", []string{"a", "b"}},
		{spaces + "a" + spaces, "a", []string{"a"}},
		{"a" + spaces + "b", "a" + spaces + "b", []string{"a", "b"}},
		{"b a b B", "b a b B", []string{"b", "a", "b", "B"}},
		{"\va\v", "\va\v", []string{"\va\v"}},
		{"\x00 \x1f", "\x00 \x1f", []string{"\x00", "\x1f"}},
		{"\xc2\xa0a\xc2\x85", "\xc2\xa0a\xc2\x85", []string{"\xc2\xa0a\xc2\x85"}},
		{"\xe2\x80\x83 \xff", "\xe2\x80\x83 \xff", []string{"\xe2\x80\x83", "\xff"}},
	} {
		if u := Trim(x.s); u != x.trim {
			t.Errorf("Trim(%q): %q, want %q", x.s, u, x.trim)
		}
		if l := Words(x.s); !slices.Equal(l, x.words) {
			t.Errorf("Words(%q): %q, want %q", x.s, l, x.words)
		}
	}
}

// P2.2: all texts of up to five bytes: the five spaces, and bytes that are none.
func TestAllSpaced(t *testing.T) {
	for _, s := range textsOf(spaces+"aB\v\xa0", 5) {
		if u, want := Trim(s), strings.Trim(s, spaces); u != want {
			t.Errorf("Trim(%q): %q, want %q", s, u, want)
		}
		if l, want := Words(s), wantWords(s); !slices.Equal(l, want) {
			t.Errorf("Words(%q): %q, want %q", s, l, want)
		}
	}
}

// P2.2: each byte at both ends and in the middle.
func TestEachByteSpaced(t *testing.T) {
	for i := range 256 {
		c := string([]byte{byte(i)})
		s := c + "p" + c + "q" + c
		if u, want := Trim(s), strings.Trim(s, spaces); u != want {
			t.Errorf("Trim(%q): %q, want %q", s, u, want)
		}
		if l, want := Words(s), wantWords(s); !slices.Equal(l, want) {
			t.Errorf("Words(%q): %q, want %q", s, l, want)
		}
	}
}

// someNames are names that order by bytes tells apart: the empty one, a start of another one, a capital, bytes above 127.
func someNames() []string {
	return []string{"", "B", "a", "ab", "b", "\xc3\xa4", "\xff"}
}

func wantSorted(l []string) []string {
	s := slices.Clone(l)
	slices.Sort(s)
	return slices.Compact(s)
}

func wantFind(l []string, s string) (less int, found bool) {
	for _, x := range l {
		if x < s {
			less++
		}
		found = found || x == s
	}
	return less, found
}

func wantMinus(a, b []string) []string {
	var out []string
	for _, x := range a {
		if !slices.Contains(b, x) {
			out = append(out, x)
		}
	}
	return out
}

func ascending(l []string) bool {
	for i := 1; i < len(l); i++ {
		if l[i-1] >= l[i] {
			return false
		}
	}
	return true
}

// P2.3: outcomes written out.
func TestFind(t *testing.T) {
	for _, x := range []struct {
		l     []string
		s     string
		want  int
		found bool
	}{
		{nil, "", 0, false},
		{[]string{}, "a", 0, false},
		{[]string{""}, "", 0, true},
		{[]string{""}, "a", 1, false},
		{[]string{"a"}, "", 0, false},
		{[]string{"a"}, "a", 0, true},
		{[]string{"a"}, "A", 0, false},
		{[]string{"a"}, "aa", 1, false},
		{[]string{"a", "d"}, "c", 1, false},
		{[]string{"a", "d"}, "d", 1, true},
		{[]string{"a", "d"}, "e", 2, false},
		{[]string{"B", "a", "\xc3\xa4"}, "b", 2, false},
		{[]string{"B", "a", "\xc3\xa4"}, "\xc3\xa4", 2, true},
		{[]string{"B", "a", "\xc3\xa4"}, "\xff", 3, false},
	} {
		if i, found := Find(x.l, x.s); i != x.want || found != x.found {
			t.Errorf("Find(%q, %q): %d, %t, want %d, %t", x.l, x.s, i, found, x.want, x.found)
		}
	}
}

// P2.3: outcomes written out.
func TestSortedAndMinus(t *testing.T) {
	for _, x := range []struct{ l, sorted, minus []string }{
		{nil, nil, nil},
		{[]string{}, nil, nil},
		{[]string{"b"}, []string{"b"}, nil},
		{[]string{"c"}, []string{"c"}, []string{"c"}},
		{[]string{"a", "c"}, []string{"a", "c"}, []string{"c"}},
		{[]string{"c", "b", "c"}, []string{"b", "c"}, []string{"c", "c"}},
		{[]string{"c", "c", "c"}, []string{"c"}, []string{"c", "c", "c"}},
		{[]string{"d", "a", "c", "b", "d", ""}, []string{"", "a", "b", "c", "d"}, []string{"d", "c", "d", ""}},
		{[]string{"ab", "B", "\xff", "a"}, []string{"B", "a", "ab", "\xff"}, []string{"ab", "B", "\xff"}},
	} {
		if l := Sorted(x.l); !slices.Equal(l, x.sorted) {
			t.Errorf("Sorted(%q): %q, want %q", x.l, l, x.sorted)
		}
		// Neither sorted nor without names that are equal.
		if l := Minus(x.l, []string{"b", "a", "b"}); !slices.Equal(l, x.minus) {
			t.Errorf("Minus(%q): %q, want %q", x.l, l, x.minus)
		}
		if l := Minus(x.l, nil); !slices.Equal(l, x.l) {
			t.Errorf("Minus(%q) of nothing: %q", x.l, l)
		}
		if l := Minus(x.l, x.l); len(l) != 0 {
			t.Errorf("Minus(%q) of itself: %q", x.l, l)
		}
	}
}

// P2.3, P2.4: all lists of up to five of some names; Find of a list that is not sorted is only to end.
func TestAllLists(t *testing.T) {
	names := someNames()
	asked := append(slices.Clone(names), "A", "aa", "b\x00", "\xc3", "\xff\xff")
	for _, l := range listsOf(names, 5) {
		s := Sorted(l)
		if !slices.Equal(s, wantSorted(l)) || !ascending(s) {
			t.Errorf("Sorted(%q): %q", l, s)
		}
		if again := Sorted(s); !slices.Equal(again, s) {
			t.Errorf("Sorted(%q): %q", s, again)
		}
		for _, name := range asked {
			Find(l, name)
			i, found := Find(s, name)
			want, is := wantFind(s, name)
			if i != want || found != is || found != slices.Contains(l, name) {
				t.Errorf("Find(%q, %q): %d, %t, want %d, %t", s, name, i, found, want, is)
			}
		}
		for k, name := range s {
			if i, found := Find(s, name); i != k || !found {
				t.Errorf("Find(%q, %q): %d, %t, want %d", s, name, i, found, k)
			}
		}
	}
}

// P2.3: Minus of all pairs of lists of up to three of some names.
func TestAllPairs(t *testing.T) {
	lists := listsOf([]string{"", "b", "a", "ab", "\xff"}, 3)
	for _, a := range lists {
		for _, b := range lists {
			if l, want := Minus(a, b), wantMinus(a, b); !slices.Equal(l, want) {
				t.Errorf("Minus(%q, %q): %q, want %q", a, b, l, want)
			}
		}
	}
}

// roomy is l with spare capacity behind it, and the whole of that memory.
func roomy(l []string) (list, whole []string) {
	whole = append(slices.Clone(l), "spare", "a", "spare")
	return whole[:len(l)], whole
}

// overwrite fills what was answered, its spare capacity too.
func overwrite(l []string) {
	l = l[:cap(l)]
	for i := range l {
		l[i] = "overwritten"
	}
}

// R4: the lists that are passed stay as they are, spare capacity too, and what is answered shares no memory with them.
func TestMemory(t *testing.T) {
	other := []string{"c", "a", "c"}
	for _, l := range append(listsOf([]string{"b", "a", "c"}, 4), []string{"a", "b", "c", "d", "e", "f"}) {
		list, whole := roomy(l)
		minusList, minusWhole := roomy(other)
		before, minusBefore := slices.Clone(whole), slices.Clone(minusWhole)
		Find(list, "b")
		answers := [][]string{Sorted(list), Minus(list, minusList), Minus(minusList, list), Minus(list, nil), Minus(list, []string{"x"})}
		copies := make([][]string, len(answers))
		for i, a := range answers {
			copies[i] = slices.Clone(a)
		}
		if !slices.Equal(whole, before) || !slices.Equal(minusWhole, minusBefore) {
			t.Fatalf("%q, %q: changed to %q, %q", before, minusBefore, whole, minusWhole)
		}
		for i, a := range answers {
			if !slices.Equal(a, copies[i]) {
				t.Fatalf("%q: answer %d changed with another one", l, i)
			}
			overwrite(a)
			if !slices.Equal(whole, before) || !slices.Equal(minusWhole, minusBefore) {
				t.Fatalf("%q: answer %d shares memory with a list that was passed", l, i)
			}
		}
	}
}

// R4: what was answered stays as it is when the list that was passed is changed afterwards.
func TestNotKept(t *testing.T) {
	for _, l := range [][]string{{"a"}, {"a", "b"}, {"b", "a", "b", "c"}} {
		list := slices.Clone(l)
		sorted, minus := Sorted(list), Minus(list, nil)
		overwrite(list)
		if !slices.Equal(sorted, wantSorted(l)) || !slices.Equal(minus, l) {
			t.Errorf("%q: %q, %q", l, sorted, minus)
		}
	}
	words := Words("a b")
	overwrite(words)
	if again := Words("a b"); !slices.Equal(again, []string{"a", "b"}) {
		t.Errorf("words: %q", again)
	}
}

// P2.1 to P2.4: long texts and lists, on which a function that takes time by the square would not end in time.
func TestLong(t *testing.T) {
	const n = 1 << 18
	s := strings.Repeat(" \tAb\xc3\x84\n", n)
	if Lower(s) != strings.Repeat(" \tab\xc3\x84\n", n) || !Same(s, strings.ToUpper(s)) {
		t.Error("Lower, Same")
	}
	if w := Words(s); len(w) != n || w[0] != "Ab\xc3\x84" || w[n-1] != w[0] {
		t.Error("Words")
	}
	if Trim(s) != s[2:len(s)-1] || Trim(strings.Repeat(" ", n)) != "" {
		t.Error("Trim")
	}
	up := make([]string, n)
	for i := range up {
		up[i] = strconv.Itoa(n + i)
	}
	down := slices.Clone(up)
	slices.Reverse(down)
	for _, l := range [][]string{up, down, append(slices.Clone(down), up...), slices.Repeat([]string{"a"}, n)} {
		sorted := Sorted(l)
		if !slices.Equal(sorted, wantSorted(l)) {
			t.Error("Sorted")
		}
		if m := Minus(l, down[1:]); len(m) == 0 || len(Minus(m, []string{"a", down[0]})) != 0 {
			t.Error("Minus")
		}
		for i, name := range sorted {
			if k, found := Find(sorted, name); k != i || !found {
				t.Fatalf("Find: %d, want %d", k, i)
			}
		}
	}
}

// The chapter: the package imports nothing.
func TestImportsNothing(t *testing.T) {
	f, err := parser.ParseFile(token.NewFileSet(), "fold.go", nil, parser.ImportsOnly)
	if err != nil {
		t.Fatal(err)
	}
	for _, x := range f.Imports {
		t.Errorf("imports %s", x.Path.Value)
	}
}
