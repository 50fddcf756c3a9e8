package atoms_test

import (
	"math"
	"protean/api"
	"protean/atoms"
	"slices"
	"strconv"
	"strings"
	"testing"
)

// mayWords: an atom may be, by the chapter's words.
func mayWords(x api.Atom) bool {
	kinds := []int{0, 1, 2, 3, 4, 5, 6}
	withN := x.Kind == 3 || x.Kind == 4 || x.Kind == 5
	return slices.Contains(kinds, x.Kind) && x.N >= 0 && (x.N == 0 || withN)
}

// risesWords: a stands ahead of b.
func risesWords(a, b api.Atom) bool {
	return a.Kind < b.Kind || a.Kind == b.Kind && a.N < b.N
}

// normWords is P6.1's Norm, word by word: each atom is put at the place where the atoms still rise.
func normWords(l []api.Atom) []api.Atom {
	var norm []api.Atom
	for _, x := range l {
		if !mayWords(x) || slices.Contains(norm, x) {
			continue
		}
		place := 0
		for place < len(norm) && risesWords(norm[place], x) {
			place++
		}
		norm = slices.Insert(norm, place, x)
	}
	return norm
}

func listMayWords(l []api.Atom) bool {
	for i, x := range l {
		if !mayWords(x) || i > 0 && !risesWords(l[i-1], x) {
			return false
		}
	}
	return true
}

func withinWords(a, b []api.Atom) bool {
	for _, x := range a {
		if !slices.Contains(b, x) {
			return false
		}
	}
	return true
}

func renameWords(l []api.Atom, site int) []api.Atom {
	var renamed []api.Atom
	for _, x := range l {
		if x == (api.Atom{Kind: 4, N: site}) {
			x = api.Atom{Kind: 5, N: site}
		}
		renamed = append(renamed, x)
	}
	return normWords(renamed)
}

func textWords(l []api.Atom) string {
	var words []string
	for _, x := range l {
		word := "?"
		if x.Kind >= 0 && x.Kind < 7 {
			word = []string{"null", "bool", "num", "fun", "rec", "sum", "any"}[x.Kind]
		}
		if x.Kind >= 3 && x.Kind <= 5 {
			word += strconv.Itoa(x.N)
		}
		words = append(words, word)
	}
	return strings.Join(words, " ")
}

// wantWords holds the calls of one list against the chapter.
func wantWords(t *testing.T, l []api.Atom) {
	t.Helper()
	if got, w := atoms.Norm(l), normWords(l); !slices.Equal(got, w) || !atoms.May(got) {
		t.Fatalf("%v: Norm %v; want %v", l, got, w)
	}
	if got, w := atoms.May(l), listMayWords(l); got != w {
		t.Fatalf("%v: May %v; want %v", l, got, w)
	}
	if got, w := atoms.Text(l), textWords(l); got != w {
		t.Fatalf("%v: Text %q; want %q", l, got, w)
	}
	for site := -1; site < 3; site++ {
		if got, w := atoms.Rename(l, site), renameWords(l, site); !slices.Equal(got, w) {
			t.Fatalf("%v: Rename by %v: %v; want %v", l, site, got, w)
		}
	}
}

// wantBoth holds the calls of two lists against the chapter, and against what follows.
func wantBoth(t *testing.T, a, b []api.Atom) {
	t.Helper()
	union := atoms.Union(a, b)
	if w := normWords(slices.Concat(a, b)); !slices.Equal(union, w) {
		t.Fatalf("%v, %v: Union %v; want %v", a, b, union, w)
	}
	if got := atoms.Union(b, a); !slices.Equal(got, union) {
		t.Fatalf("%v, %v: Union %v, in the other order %v", a, b, union, got)
	}
	for _, l := range [][]api.Atom{a, b, union} {
		if got := atoms.Union(union, l); !slices.Equal(got, union) {
			t.Fatalf("%v, %v: Union %v; of %v, taken again, comes %v", a, b, union, l, got)
		}
	}
	if got, w := atoms.Within(a, b), withinWords(a, b); got != w {
		t.Fatalf("%v within %v: %v; want %v", a, b, got, w)
	}
	for _, x := range a {
		if got, w := atoms.Has(b, x), withinWords([]api.Atom{x}, b); got != w {
			t.Fatalf("%v in %v: %v; want %v", x, b, got, w)
		}
	}
}

// lists tells all lists of so many of these atoms.
func lists(from []api.Atom, count int, tell func(l []api.Atom)) {
	var on func(chosen []api.Atom)
	on = func(chosen []api.Atom) {
		if len(chosen) == count {
			tell(chosen)
			return
		}
		for _, x := range from {
			on(append(slices.Clone(chosen), x))
		}
	}
	on(nil)
}

// around is all atoms of all Kinds, and of those beside them, of N from -1 on.
func around() []api.Atom {
	var l []api.Atom
	for kind := -1; kind <= api.AtKinds; kind++ {
		for n := -1; n < 3; n++ {
			l = append(l, api.Atom{Kind: kind, N: n})
		}
	}
	return l
}

// P6.1, P6.2, P6.3: all short lists.
func TestAllLists(t *testing.T) {
	for count := range 4 {
		lists(around(), count, func(l []api.Atom) { wantWords(t, l) })
	}
	lists(list(null, num, rec(0), rec(1), sum(1), fun(-1)), 5, func(l []api.Atom) { wantWords(t, l) })
}

// P6.1, P6.4: all pairs of short lists.
func TestAllPairs(t *testing.T) {
	few := list(null, num, rec(0), rec(1), sum(0), dyn, rec(-1), api.Atom{Kind: api.AtNum, N: 1}, api.Atom{Kind: 7})
	for left := range 3 {
		for right := range 4 {
			lists(few, left, func(a []api.Atom) {
				lists(few, right, func(b []api.Atom) { wantBoth(t, a, b) })
			})
		}
	}
}

// P6.1, P6.4: lists of the least and the greatest numbers, as Kinds and as N.
func TestFarApart(t *testing.T) {
	var far []api.Atom
	for _, kind := range []int{math.MinInt, 0, 4, math.MaxInt} {
		for _, n := range []int{math.MinInt, 0, math.MaxInt} {
			far = append(far, api.Atom{Kind: kind, N: n})
		}
	}
	for left := range 3 {
		lists(far, left, func(a []api.Atom) {
			wantWords(t, a)
			lists(far, 3, func(b []api.Atom) { wantBoth(t, a, b) })
		})
	}
}

// subsets is all lists that may be, of some of the atoms, which rise.
func subsets(of []api.Atom) [][]api.Atom {
	var all [][]api.Atom
	for bits := range 1 << len(of) {
		var l []api.Atom
		for i, x := range of {
			if bits>>i&1 == 1 {
				l = append(l, x)
			}
		}
		all = append(all, l)
	}
	return all
}

// P6.4: a union has both within it, and is within whatever else has both.
func TestUnionIsLeast(t *testing.T) {
	all := subsets(list(null, num, fun(1), rec(0), rec(1), sum(1)))
	for _, a := range all {
		for _, b := range all {
			union := atoms.Union(a, b)
			if !atoms.May(union) || !atoms.Within(a, union) || !atoms.Within(b, union) {
				t.Fatalf("%v, %v: Union %v", a, b, union)
			}
			for _, c := range all {
				if both := atoms.Within(a, c) && atoms.Within(b, c); both != atoms.Within(union, c) {
					t.Fatalf("%v, %v, both within %v: %v, but not their Union %v", a, b, c, both, union)
				}
			}
		}
	}
}

// P6.4: of three lists the union is the same, whichever two are taken first.
func TestUnionInAnyOrder(t *testing.T) {
	all := subsets(list(boolean, fun(0), fun(2), sum(0), dyn))
	for _, a := range all {
		for _, b := range all {
			for _, c := range all {
				left, right := atoms.Union(atoms.Union(a, b), c), atoms.Union(a, atoms.Union(c, b))
				if !slices.Equal(left, right) {
					t.Fatalf("%v, %v, %v: %v and %v", a, b, c, left, right)
				}
			}
		}
	}
}

// P6.4: lists that may be are the same, if each is within the other one; unlike ones are not both.
func TestWithinEachOther(t *testing.T) {
	all := subsets(list(null, boolean, fun(0), rec(0), rec(3), sum(0), dyn))
	for i, a := range all {
		for j, b := range all {
			if each := atoms.Within(a, b) && atoms.Within(b, a); each != (i == j) || each != slices.Equal(a, b) {
				t.Fatalf("%v, %v: within each other: %v", a, b, each)
			}
		}
	}
}

// Norm of a Norm is the same, and what is within stays within when it is renamed.
func TestRenameKeepsWithin(t *testing.T) {
	all := subsets(list(num, fun(1), rec(0), rec(1), sum(0), sum(1)))
	for _, a := range all {
		if got := atoms.Norm(a); !slices.Equal(got, a) {
			t.Fatalf("%v: Norm %v", a, got)
		}
		for _, b := range all {
			renamed := atoms.Rename(b, 1)
			if atoms.Within(a, b) && !atoms.Within(atoms.Rename(a, 1), renamed) {
				t.Fatalf("%v within %v, but not renamed", a, b)
			}
			if got := atoms.Rename(renamed, 1); !slices.Equal(got, renamed) || atoms.Has(got, rec(1)) {
				t.Fatalf("%v: renamed %v, again %v", b, renamed, got)
			}
		}
	}
}

// FuzzAtoms holds all calls against the chapter, of lists that bytes tell.
func FuzzAtoms(f *testing.F) {
	for _, s := range []string{"", "\x00", "abc", "\x15\x2a\x3f\x54", "\xff\xfe\xfd\x00\x01"} {
		f.Add([]byte(s), []byte(s))
		f.Add([]byte(s), []byte("a\x00\x10"))
	}
	f.Fuzz(func(t *testing.T, first, second []byte) {
		told := func(bytes []byte) []api.Atom {
			var l []api.Atom
			for _, c := range bytes {
				l = append(l, api.Atom{Kind: int(c)%10 - 1, N: int(c)/10 - 2})
			}
			return l
		}
		a, b := told(first), told(second)
		wantWords(t, a)
		wantWords(t, b)
		wantBoth(t, a, b)
	})
}
