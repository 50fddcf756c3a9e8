package atoms_test

import (
	"math"
	"protean/api"
	"protean/atoms"
	"slices"
	"strings"
	"testing"
)

// Some atoms that may be.
var (
	null    = api.Atom{Kind: api.AtNull}
	boolean = api.Atom{Kind: api.AtBool}
	num     = api.Atom{Kind: api.AtNum}
	dyn     = api.Atom{Kind: api.AtDyn}
)

func fun(n int) api.Atom { return api.Atom{Kind: api.AtFun, N: n} }

func rec(n int) api.Atom { return api.Atom{Kind: api.AtRec, N: n} }

func sum(n int) api.Atom { return api.Atom{Kind: api.AtSum, N: n} }

func list(l ...api.Atom) []api.Atom { return l }

// each is all atoms that may be, of few N, and of the greatest one; they rise.
func each() []api.Atom {
	return list(null, boolean, num,
		fun(0), fun(1), fun(10), fun(math.MaxInt),
		rec(0), rec(1), rec(10), rec(math.MaxInt),
		sum(0), sum(1), sum(10), sum(math.MaxInt), dyn)
}

// none is atoms that may not be.
func none() []api.Atom {
	l := list(
		api.Atom{Kind: -1}, api.Atom{Kind: api.AtKinds}, api.Atom{Kind: 9}, api.Atom{Kind: -1, N: 1}, api.Atom{Kind: api.AtKinds, N: 1},
		api.Atom{Kind: math.MinInt}, api.Atom{Kind: math.MaxInt}, api.Atom{Kind: math.MinInt, N: math.MinInt}, api.Atom{Kind: math.MaxInt, N: math.MaxInt},
		fun(-1), rec(-1), sum(-1), fun(math.MinInt), rec(math.MinInt), sum(math.MinInt))
	for _, kind := range []int{api.AtNull, api.AtBool, api.AtNum, api.AtDyn} {
		for _, n := range []int{1, -1, math.MaxInt, math.MinInt} {
			l = append(l, api.Atom{Kind: kind, N: n})
		}
	}
	return l
}

func wantList(t *testing.T, what string, got []api.Atom, want ...api.Atom) {
	t.Helper()
	if !slices.Equal(got, want) {
		t.Errorf("%.300s: %v; want %v", what, got, want)
	}
}

func wantBool(t *testing.T, what string, got, want bool) {
	t.Helper()
	if got != want {
		t.Errorf("%.300s: %v; want %v", what, got, want)
	}
}

// P6.1, P6.2: the chapter's examples.
func TestExamples(t *testing.T) {
	wantList(t, "Rename", atoms.Rename(list(rec(1), sum(2)), 1), sum(1), sum(2))
	wantList(t, "Union", atoms.Union(list(num), list(null, num)), null, num)
}

// The kinds are those of the chapter, by their numbers.
func TestKinds(t *testing.T) {
	if l := []int{api.AtNull, api.AtBool, api.AtNum, api.AtFun, api.AtRec, api.AtSum, api.AtDyn, api.AtKinds}; !slices.Equal(l, []int{0, 1, 2, 3, 4, 5, 6, 7}) {
		t.Error(l)
	}
}

// P6.1: May, of lists that may be.
func TestMay(t *testing.T) {
	for _, l := range [][]api.Atom{
		nil, {}, each(), list(null, num), list(null, dyn), list(boolean, fun(3)), list(fun(3), rec(0)), list(rec(5), sum(0)), list(sum(7), dyn),
		list(fun(0), fun(1), fun(2)), list(rec(2), rec(9), rec(10)), list(sum(0), sum(math.MaxInt)), list(rec(1), sum(1)),
	} {
		wantBool(t, "May of "+atoms.Text(l), atoms.May(l), true)
	}
	for _, x := range each() {
		wantBool(t, "May of "+atoms.Text(list(x)), atoms.May(list(x)), true)
	}
}

// P6.1: May, of lists that do not rise, or have an atom twice.
func TestMayNotByOrder(t *testing.T) {
	l := each()
	for i := range l {
		wantBool(t, "twice: "+atoms.Text(list(l[i])), atoms.May(list(l[i], l[i])), false)
		for j := range i {
			wantBool(t, "falling: "+atoms.Text(list(l[i], l[j])), atoms.May(list(l[i], l[j])), false)
			wantBool(t, "in turn", atoms.May(list(l[j], l[i], l[j])), false)
		}
		twice := slices.Insert(slices.Clone(l), i, l[i])
		wantBool(t, "among others twice: "+atoms.Text(list(l[i])), atoms.May(twice), false)
	}
	wantBool(t, "rec10 rec9", atoms.May(list(rec(10), rec(9))), false)
	wantBool(t, "sum0 rec1", atoms.May(list(sum(0), rec(1))), false)
}

// P6.1: May, of lists with an atom that may not be, at its place among others that rise.
func TestMayNotByAtom(t *testing.T) {
	for _, x := range none() {
		wantBool(t, "alone", atoms.May(list(x)), false)
		l := append(each(), x)
		slices.SortFunc(l, func(a, b api.Atom) int {
			switch {
			case a.Kind < b.Kind || a.Kind == b.Kind && a.N < b.N:
				return -1
			case a == b:
				return 0
			}
			return 1
		})
		if atoms.May(l) {
			t.Errorf("May of %v, among which is %v", l, x)
		}
	}
}

// P6.1: Norm, of lists in any order, with atoms that stand twice.
func TestNorm(t *testing.T) {
	wantList(t, "nil", atoms.Norm(nil))
	wantList(t, "empty", atoms.Norm(list()))
	wantList(t, "as it is", atoms.Norm(each()), each()...)
	back := each()
	slices.Reverse(back)
	wantList(t, "falling", atoms.Norm(back), each()...)
	wantList(t, "falling, rising", atoms.Norm(append(back, each()...)), each()...)
	wantList(t, "twice", atoms.Norm(list(num, num)), num)
	wantList(t, "twice, parted", atoms.Norm(list(sum(1), num, sum(1), null, num)), null, num, sum(1))
	wantList(t, "by numbers, not by texts", atoms.Norm(list(rec(10), rec(9), fun(100), fun(20))), fun(20), fun(100), rec(9), rec(10))
	wantList(t, "by Kind first", atoms.Norm(list(dyn, sum(0), rec(5), fun(9), num, boolean, null)), null, boolean, num, fun(9), rec(5), sum(0), dyn)
}

// P6.1: Norm and Union leave out what may not be.
func TestNormLeavesOut(t *testing.T) {
	wantList(t, "nothing that may be", atoms.Norm(none()))
	for _, x := range none() {
		wantList(t, "alone", atoms.Norm(list(x)))
		wantList(t, "ahead", atoms.Norm(append(list(x), each()...)), each()...)
		wantList(t, "behind", atoms.Norm(append(each(), x)), each()...)
		wantList(t, "alone, in a Union", atoms.Union(list(x), list(x)))
		wantList(t, "left in a Union", atoms.Union(list(num, x), list(rec(1))), num, rec(1))
		wantList(t, "right in a Union", atoms.Union(list(num), list(x, rec(1))), num, rec(1))
		wantList(t, "renamed", atoms.Rename(list(x, sum(1)), x.N), sum(1))
	}
}

// P6.1: Union, of lists that may be, and of others.
func TestUnion(t *testing.T) {
	wantList(t, "nil", atoms.Union(nil, nil))
	wantList(t, "empty", atoms.Union(list(), nil))
	wantList(t, "left", atoms.Union(each(), nil), each()...)
	wantList(t, "right", atoms.Union(list(), each()), each()...)
	wantList(t, "both", atoms.Union(each(), each()), each()...)
	wantList(t, "apart", atoms.Union(list(rec(1), sum(1)), list(null, fun(2))), null, fun(2), rec(1), sum(1))
	wantList(t, "in turn", atoms.Union(list(null, num, rec(1)), list(boolean, num, fun(0), dyn)), null, boolean, num, fun(0), rec(1), dyn)
	wantList(t, "in any order", atoms.Union(list(dyn, num, dyn), list(sum(3), num, null, sum(3))), null, num, sum(3), dyn)
	wantList(t, "any is an atom as others are", atoms.Union(list(dyn), list(num)), num, dyn)
	wantList(t, "the newest and the older ones", atoms.Union(list(sum(1)), list(rec(1))), rec(1), sum(1))
}

// P6.1: Within and Has, of what may be, in any order.
func TestWithin(t *testing.T) {
	for _, c := range []struct {
		a, b []api.Atom
		want bool
	}{
		{nil, nil, true},
		{nil, list(), true},
		{list(), list(num), true},
		{list(num), nil, false},
		{list(num), list(num), true},
		{list(num), list(null), false},
		{list(num), list(null, num, rec(1)), true},
		{list(num), list(rec(1), num, null), true},
		{list(rec(1), null), list(rec(1), num, null), true},
		{list(null, boolean), list(null, num), false},
		{list(num, boolean), list(null, num), false},
		{list(num, num, num), list(num), true},
		{list(num), list(num, num), true},
		{list(rec(1)), list(rec(0), rec(2)), false},
		{list(rec(1)), list(sum(1), fun(1)), false},
		{list(num), list(dyn), false},
		{list(dyn), list(null, boolean, num), false},
		{each(), each(), true},
		{each(), each()[1:], false},
		{each(), each()[:len(each())-1], false},
		{each()[3:7], each(), true},
	} {
		wantBool(t, atoms.Text(c.a)+" within "+atoms.Text(c.b), atoms.Within(c.a, c.b), c.want)
	}
}

// P6.1: Has, of each atom in each place.
func TestHas(t *testing.T) {
	all := append(each(), none()...)
	for i, x := range all {
		wantBool(t, "alone", atoms.Has(list(x), x), true)
		wantBool(t, "in all", atoms.Has(all, x), true)
		wantBool(t, "in nil", atoms.Has(nil, x), false)
		wantBool(t, "in none", atoms.Has(list(), x), false)
		without := slices.Delete(slices.Clone(all), i, i+1)
		wantBool(t, "in the others", atoms.Has(without, x), false)
		wantBool(t, "twice", atoms.Has(append(without, x, x), x), true)
	}
}

// P6.1: Within and Has ask of atoms that may not be as of others.
func TestWithinOfWhatMayNotBe(t *testing.T) {
	for _, x := range none() {
		wantBool(t, "within itself", atoms.Within(list(x), list(x)), true)
		wantBool(t, "within others and itself", atoms.Within(list(x, num), list(num, x, null)), true)
		wantBool(t, "within nothing", atoms.Within(list(x), nil), false)
		wantBool(t, "within all others that may be", atoms.Within(list(num, x), each()), false)
		wantBool(t, "others within it", atoms.Within(list(num), list(x)), false)
	}
	wantBool(t, "all", atoms.Within(none(), append(each(), none()...)), true)
}

// P6.2: Rename, of the site and of others.
func TestRename(t *testing.T) {
	for _, c := range []struct {
		l    []api.Atom
		site int
		want []api.Atom
	}{
		{nil, 0, nil},
		{list(), 0, nil},
		{list(rec(0)), 0, list(sum(0))},
		{list(rec(1)), 0, list(rec(1))},
		{list(rec(0)), 1, list(rec(0))},
		{list(sum(1)), 1, list(sum(1))},
		{list(fun(1)), 1, list(fun(1))},
		{list(fun(1), rec(1)), 1, list(fun(1), sum(1))},
		{list(rec(1), sum(1)), 1, list(sum(1))},
		{list(rec(1), rec(1)), 1, list(sum(1))},
		{list(rec(1), rec(2), sum(0)), 1, list(rec(2), sum(0), sum(1))},
		{list(rec(0), rec(1), rec(2), sum(0), sum(2), dyn), 1, list(rec(0), rec(2), sum(0), sum(1), sum(2), dyn)},
		{list(dyn, rec(2), null, rec(1), num, rec(2)), 2, list(null, num, rec(1), sum(2), dyn)},
		{list(null, boolean, num, dyn), 0, list(null, boolean, num, dyn)},
		{list(rec(math.MaxInt)), math.MaxInt, list(sum(math.MaxInt))},
		{list(rec(-1), rec(1)), -1, list(rec(1))},
		{list(rec(math.MinInt), num), math.MinInt, list(num)},
		{list(rec(-1), sum(-1), fun(-1)), 1, nil},
	} {
		wantList(t, "Rename of "+atoms.Text(c.l), atoms.Rename(c.l, c.site), c.want...)
	}
}

// P6.3: Text, of each Kind, of N below 0, of other Kinds.
func TestText(t *testing.T) {
	for _, c := range []struct {
		want string
		l    []api.Atom
	}{
		{"", nil},
		{"", list()},
		{"null", list(null)},
		{"bool", list(boolean)},
		{"num", list(num)},
		{"fun0", list(fun(0))},
		{"rec7", list(rec(7))},
		{"sum12", list(sum(12))},
		{"any", list(dyn)},
		{"fun-1 rec-20 sum-300", list(fun(-1), rec(-20), sum(-300))},
		{"fun9223372036854775807 rec-9223372036854775808", list(fun(9223372036854775807), rec(-9223372036854775808))},
		{"? ? ? ?", list(api.Atom{Kind: -1}, api.Atom{Kind: 7, N: 7}, api.Atom{Kind: math.MaxInt}, api.Atom{Kind: math.MinInt, N: -1})},
		{"null bool num any", list(api.Atom{Kind: api.AtNull, N: 1}, api.Atom{Kind: api.AtBool, N: -2}, api.Atom{Kind: api.AtNum, N: 33}, api.Atom{Kind: api.AtDyn, N: 4})},
		{"any sum1 sum0 sum1 null", list(dyn, sum(1), sum(0), sum(1), null)},
		{"null bool num fun1 rec10 sum1000 any", list(null, boolean, num, fun(1), rec(10), sum(1000), dyn)},
	} {
		if got := atoms.Text(c.l); got != c.want {
			t.Errorf("%v: Text %q; want %q", c.l, got, c.want)
		}
	}
}

// R4: arguments stay as they were, and answers are memory of their own.
func TestNothingShared(t *testing.T) {
	whole := list(sum(1), num, rec(1), num, null, api.Atom{Kind: 9}, rec(2))
	a, b := slices.Clone(whole), list(num, null, num)
	same := func(what string) {
		t.Helper()
		wantList(t, what, a, whole...)
		wantList(t, what, b, num, null, num)
	}
	answers := map[string]func() []api.Atom{
		"Norm":   func() []api.Atom { return atoms.Norm(a) },
		"Union":  func() []api.Atom { return atoms.Union(a[:3], b) },
		"Rename": func() []api.Atom { return atoms.Rename(a, 1) },
	}
	for what, answer := range answers {
		first := answer()
		second := answer()
		same(what)
		kept := slices.Clone(second)
		for i := range first {
			first[i] = dyn
		}
		_ = append(first, dyn)
		same(what + ", its answer changed")
		wantList(t, what+", again", second, kept...)
	}
	atoms.Within(a, b)
	atoms.Within(b, a)
	atoms.May(a)
	atoms.Has(a, num)
	atoms.Text(a)
	same("the others")
}

// R4: lists that are right already are answered as new memory, too.
func TestNothingSharedOfWhatIsRight(t *testing.T) {
	l := each()
	for what, got := range map[string][]api.Atom{"Norm": atoms.Norm(l), "left": atoms.Union(l, nil), "right": atoms.Union(nil, l), "both": atoms.Union(l, l), "Rename": atoms.Rename(l, 5)} {
		wantList(t, what, got, each()...)
		for i := range got {
			got[i] = num
		}
		wantList(t, what+", its answer changed", l, each()...)
	}
}

// R4: what stands behind an argument in its memory is not written.
func TestNothingWrittenBehind(t *testing.T) {
	whole := list(rec(1), null, num, num)
	atoms.Union(whole[:2], list(dyn))
	atoms.Norm(whole[:2])
	atoms.Rename(whole[:2], 1)
	atoms.Within(list(dyn), whole[:2])
	wantList(t, "behind", whole, rec(1), null, num, num)
}

// R1: long lists, in time.
func TestLong(t *testing.T) {
	const many = 1 << 18
	var falling, rising []api.Atom
	for i := range many {
		falling = append(falling, rec(many-1-i))
		rising = append(rising, rec(i))
	}
	wantBool(t, "Norm", slices.Equal(atoms.Norm(falling), rising), true)
	wantBool(t, "Union", slices.Equal(atoms.Union(falling, rising), rising), true)
	wantBool(t, "Within", atoms.Within(falling, rising) && atoms.Within(rising, falling), true)
	wantBool(t, "not Within", atoms.Within(falling, falling[1:]), false)
	wantBool(t, "May", atoms.May(rising), true)
	wantBool(t, "not May", atoms.May(append(rising, rec(0))), false)
	renamed := atoms.Rename(falling, 0)
	wantBool(t, "Rename", len(renamed) == many && renamed[0] == rec(1) && renamed[many-1] == sum(0), true)
	wantBool(t, "Text", atoms.Text(rising[:3]) == "rec0 rec1 rec2" && strings.Count(atoms.Text(rising), " ") == many-1, true)
}
