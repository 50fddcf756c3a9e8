package demote_test

import (
	"protean/api"
	"protean/atoms"
	"protean/demote"
	"protean/object"
	"protean/state"
	"slices"
	"testing"
)

// ahead: the atom x stands ahead of y.
func ahead(x, y api.Atom) bool {
	return x.Kind < y.Kind || x.Kind == y.Kind && x.N < y.N
}

// built is the state of these variables and of these objects.
func built(variables map[string][]api.Atom, objects map[api.Atom]api.Shape) api.State {
	var s api.State
	for name, v := range variables {
		place := 0
		for place < len(s.Vars) && s.Vars[place].Name < name {
			place++
		}
		s.Vars = slices.Insert(s.Vars, place, api.Bind{Name: name, Vals: v})
	}
	for x, o := range objects {
		place := 0
		for place < len(s.Locs) && ahead(s.Locs[place].Atom, x) {
			place++
		}
		s.Locs = slices.Insert(s.Locs, place, loc(x, o))
	}
	return s
}

// renamedWords is a list in which each AtRec of the site is AtSum of it.
func renamedWords(l []api.Atom, site int) []api.Atom {
	var renamed []api.Atom
	for _, x := range l {
		if x == rec(site) {
			x = sum(site)
		}
		renamed = append(renamed, x)
	}
	return atoms.Norm(renamed)
}

// renamedShapeWords is a shape in which all Vals, and Proto, are renamed.
func renamedShapeWords(o api.Shape, site int) api.Shape {
	renamed := api.Shape{Proto: renamedWords(o.Proto, site)}
	for _, f := range o.Fields {
		renamed.Fields = append(renamed.Fields, api.Field{Name: f.Name, Sure: f.Sure, Vals: renamedWords(f.Vals, site)})
	}
	return renamed
}

// ageWords is P9.1, word by word: the variables and the objects of the aged state.
func ageWords(s api.State, site int) (map[string][]api.Atom, map[api.Atom]api.Shape) {
	variables, objects := map[string][]api.Atom{}, map[api.Atom]api.Shape{}
	for _, b := range s.Vars {
		variables[b.Name] = renamedWords(b.Vals, site)
	}
	for _, l := range s.Locs {
		objects[l.Atom] = renamedShapeWords(l.Shape, site)
	}
	if newest, was := objects[rec(site)]; was {
		delete(objects, rec(site))
		if old, there := objects[sum(site)]; there {
			newest = object.Join(newest, old)
		}
		objects[sum(site)] = newest
	}
	return variables, objects
}

// agedWords is P9.1, word by word.
func agedWords(s api.State, site int) api.State {
	switch {
	case !state.May(s) || site < 0:
		return api.State{}
	case s.Dead:
		return dead
	}
	return built(ageWords(s, site))
}

// allocWords is P9.2, word by word.
func allocWords(s api.State, x string, site int, o api.Shape) api.State {
	switch {
	case !state.May(s) || site < 0 || !object.May(o):
		return api.State{}
	case s.Dead:
		return dead
	}
	variables, objects := ageWords(s, site)
	objects[rec(site)] = renamedShapeWords(o, site)
	variables[x] = list(rec(site))
	return built(variables, objects)
}

// speaksOf tells in how many places a state speaks of x, as of what is, or as of what has a shape.
func speaksOf(s api.State, x api.Atom) int {
	n := 0
	for _, l := range atomsOf(s) {
		if slices.Contains(*l, x) {
			n++
		}
	}
	for _, l := range s.Locs {
		if l.Atom == x {
			n++
		}
	}
	return n
}

// news are shapes of new objects: some that may be, some that may not.
func news() []api.Shape {
	return []api.Shape{
		{}, shape(sure("p", num), perhaps("q", rec(0))), of(rec(0), rec(1), sum(0)), shape(sure("p", rec(1), sum(1))), of(num, null), shape(sure("q"), sure("p")), shape(sure("p", rec(0), rec(0))),
	}
}

// wantWords holds the calls of one state against the chapter, and against P9.3.
func wantWords(t *testing.T, s api.State) {
	t.Helper()
	for site := -1; site < 3; site++ {
		aged := demote.Age(s, site)
		if w := agedWords(s, site); !same(aged, w) || !state.May(aged) {
			t.Fatalf("%v: Age at %v: %v; want %v", s, site, aged, w)
		}
		if speaksOf(aged, rec(site)) > 0 {
			t.Fatalf("%v: Age at %v: %v speaks of the newest object", s, site, aged)
		}
		if again := demote.Age(aged, site); site >= 0 && !same(again, aged) {
			t.Fatalf("%v: Age at %v: %v; again: %v", s, site, aged, again)
		}
		for _, o := range news() {
			for _, x := range []string{"", "x", "y"} {
				wantAlloc(t, s, x, site, o, aged)
			}
		}
	}
}

// wantAlloc holds one call of Alloc against the chapter, and against P9.3.
func wantAlloc(t *testing.T, s api.State, x string, site int, o api.Shape, aged api.State) {
	t.Helper()
	got := demote.Alloc(s, x, site, o)
	if w := allocWords(s, x, site, o); !same(got, w) || !state.May(got) {
		t.Fatalf("%v: Alloc %q at %v of %v: %v; want %v", s, x, site, o, got, w)
	}
	if !state.May(s) || s.Dead || site < 0 || !object.May(o) {
		return
	}
	// The new object's shape, and x.
	if n := speaksOf(got, rec(site)); n != 2 || !slices.Equal(state.Var(got, x), list(rec(site))) {
		t.Fatalf("%v: Alloc %q at %v of %v: %v speaks of the new object in %v places", s, x, site, o, got, n)
	}
	if back := state.Set(state.Put(aged, rec(site), renamedShapeWords(o, site)), x, list(rec(site))); !same(got, back) {
		t.Fatalf("%v: Alloc %q at %v of %v: %v; not as Age, but %v", s, x, site, o, got, back)
	}
}

// wantBoth: what a state is within is aged to what it is aged within, a new object made or not; and of a join comes the join.
func wantBoth(t *testing.T, a, b api.State, site int) {
	t.Helper()
	if !state.May(a) || !state.May(b) {
		return
	}
	agedA, agedB := demote.Age(a, site), demote.Age(b, site)
	if got, w := demote.Age(state.Join(a, b), site), state.Join(agedA, agedB); !same(got, w) {
		t.Fatalf("%v, %v: Age at %v of their Join: %v; Join of what is aged: %v", a, b, site, got, w)
	}
	if !state.Within(a, b) {
		return
	}
	if !state.Within(agedA, agedB) {
		t.Fatalf("%v within %v, but not aged at %v: %v, %v", a, b, site, agedA, agedB)
	}
	o, more := shape(sure("p", rec(0))), shape(perhaps("p", null, rec(0), sum(0)), perhaps("q", num))
	for _, x := range []string{"x", "z"} {
		if c, d := demote.Alloc(a, x, site, o), demote.Alloc(b, x, site, more); !state.Within(c, d) {
			t.Fatalf("%v within %v, but not with a new object at %v: %v, %v", a, b, site, c, d)
		}
	}
}

// rows is all lists of at most so many of these, in any order, also of one twice.
func rows[T any](of []T, most int) [][]T {
	all := [][]T{nil}
	for at := 0; at < len(all); at++ {
		if len(all[at]) == most {
			break
		}
		for _, x := range of {
			all = append(all, append(slices.Clone(all[at]), x))
		}
	}
	return all
}

// states is all states of at most so many of these variables and objects, be they such as may be or not, living and dead.
func states(variables []api.Bind, objects []api.Loc, most int) []api.State {
	var all []api.State
	for _, v := range rows(variables, most) {
		for _, l := range rows(objects, most) {
			all = append(all, api.State{Vars: v, Locs: l}, api.State{Dead: true, Vars: v, Locs: l})
		}
	}
	return all
}

// living is those that may be.
func living(l []api.State) []api.State {
	return slices.DeleteFunc(l, func(s api.State) bool { return !state.May(s) })
}

// at is all objects at these atoms, of these shapes.
func at(of []api.Atom, shapes ...api.Shape) []api.Loc {
	var l []api.Loc
	for _, x := range of {
		for _, o := range shapes {
			l = append(l, loc(x, o))
		}
	}
	return l
}

// P9.1, P9.2, P9.3: all short states, such as may be and such as may not.
func TestAllStates(t *testing.T) {
	variables := []api.Bind{bind("x", rec(0), sum(1)), bind("x", num), bind("y", rec(0), rec(1), sum(0)), bind("y", num, null)}
	objects := at(list(rec(0), sum(0), num), of(rec(0)), shape(sure("p", rec(0), sum(1)), perhaps("q", null)), shape(sure("q"), sure("p")))
	for _, s := range states(variables, objects, 2) {
		wantWords(t, s)
	}
	for _, s := range wrong() {
		wantWords(t, s)
	}
}

// P9.1, P9.2, P9.3: all states of few objects, with the newest and the older ones of two sites.
func TestAllObjects(t *testing.T) {
	objects := at(list(rec(0), rec(1), sum(0), sum(1)), of(rec(0), sum(1)), shape(perhaps("p", rec(0), rec(1), sum(0))), shape(sure("p", num)))
	for _, l := range rows(objects, 4) {
		if s := locs(l...); state.May(s) {
			wantWords(t, s)
		}
	}
}

// P9.3: all pairs of small states.
func TestAllPairs(t *testing.T) {
	all := living(states([]api.Bind{bind("x", rec(0)), bind("x", null), bind("x", rec(0), sum(0)), bind("y", num, rec(0))}, at(list(rec(0), sum(0)), of(rec(0)), shape(sure("p", num)), shape(perhaps("p", num, rec(0)), perhaps("q", num))), 2))
	for _, a := range all {
		for _, b := range all {
			wantBoth(t, a, b, 0)
			wantBoth(t, a, b, 1)
		}
	}
}

// grown is a state that bytes tell; most are such that may be.
func grown(told []byte) api.State {
	next := func() int {
		if len(told) == 0 {
			return 0
		}
		c := int(told[0])
		told = told[1:]
		return c
	}
	vals := func() []api.Atom {
		var l []api.Atom
		for range next() % 4 {
			c := next()
			l = append(l, api.Atom{Kind: c%10 - 1, N: c/10%5 - 1})
		}
		if next()%8 > 0 {
			l = atoms.Norm(l)
		}
		return l
	}
	variables, objects := map[string][]api.Atom{}, map[api.Atom]api.Shape{}
	isDead := next()%8 == 1
	if isDead && next()%4 > 0 {
		told = nil
	}
	for len(told) > 0 {
		c := next()
		if c%2 == 0 {
			variables[[]string{"", "x", "x\x00", "y", "z"}[c/2%5]] = vals()
			continue
		}
		o := api.Shape{Proto: vals()}
		if c%4 == 1 {
			o.Fields = append(o.Fields, api.Field{Name: "p", Sure: c%8 == 1, Vals: vals()})
		}
		objects[list(rec(0), rec(1), rec(2), sum(0), sum(1), sum(2), rec(-1))[c/8%7]] = o
	}
	s := built(variables, objects)
	s.Dead = isDead
	return s
}

// FuzzDemote holds all calls against the chapter, of states that bytes tell.
func FuzzDemote(f *testing.F) {
	for _, s := range []string{"", "\x00", "\x01", "abc", "\x00\x02\x0f\x10\x01\x01\x01\x0f\x01\x01\x17\x01", "\xff\xfe\xfd\x00\x01", "\x01\x01\x0f\x01\x01\x02\x0f\x10\x01\x19\x01\x02\x01"} {
		f.Add([]byte(s), []byte(s))
		f.Add([]byte(s), []byte("\x00\x06\x02\x01\x03\x01\x01\x01\x0f\x01\x01\x0d\x01"))
	}
	f.Fuzz(func(t *testing.T, first, second []byte) {
		a, b := grown(first[:min(len(first), 100)]), grown(second[:min(len(second), 100)])
		wantWords(t, a)
		wantWords(t, b)
		for site := -1; site < 3; site++ {
			wantBoth(t, a, b, site)
			wantBoth(t, a, state.Join(a, b), site)
		}
	})
}
