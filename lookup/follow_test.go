package lookup_test

import (
	"protean/api"
	"protean/atoms"
	"protean/lookup"
	"protean/object"
	"protean/state"
	"slices"
	"testing"
)

func isObject(x api.Atom) bool { return x.Kind == api.AtRec || x.Kind == api.AtSum }

// reachWords is P10.1, word by word: what must be in the list is put there, till nothing is missing.
func reachWords(s api.State, v []api.Atom, name string) []api.Atom {
	l := atoms.Norm(v)
	for {
		more := l
		for _, x := range l {
			o, there := state.Loc(s, x)
			if f, has := object.Get(o, name); isObject(x) && there && !(has && f.Sure) {
				more = atoms.Union(more, o.Proto)
			}
		}
		if len(more) == len(l) {
			return l
		}
		l = more
	}
}

// findWords is P10.1, word by word.
func findWords(s api.State, v []api.Atom, name string) api.Found {
	var f api.Found
	l := reachWords(s, v, name)
	f.Dyn = slices.Contains(l, dyn)
	f.Sure = !slices.ContainsFunc(l, func(x api.Atom) bool { return !isObject(x) })
	for _, x := range l {
		o, _ := state.Loc(s, x)
		if own, has := object.Get(o, name); has {
			f.Some = true
			f.Vals = atoms.Union(f.Vals, own.Vals)
		}
	}
	return f
}

// wantWords holds both calls against the chapter.
func wantWords(t *testing.T, s api.State, v []api.Atom, name string) {
	t.Helper()
	l, f := lookup.Reach(s, v, name), lookup.Find(s, v, name)
	if w := reachWords(s, v, name); !slices.Equal(l, w) {
		t.Fatalf("%v, %v, %q: Reach %v; want %v", s, v, name, l, w)
	}
	if w := findWords(s, v, name); !same(f, w) {
		t.Fatalf("%v, %v, %q: Find %v; want %v", s, v, name, f, w)
	}
	if !atoms.May(l) || !atoms.May(f.Vals) {
		t.Fatalf("%v, %v, %q: %v, %v do not rise", s, v, name, l, f)
	}
	// What is reached from what is reached is no more, and what is found there is the same.
	if again := lookup.Reach(s, l, name); !slices.Equal(again, l) || !same(lookup.Find(s, l, name), f) {
		t.Fatalf("%v, %v, %q: Reach %v; again %v", s, v, name, l, again)
	}
}

// wantWithin is P10.2, of states and lists the first of which are within the second ones.
func wantWithin(t *testing.T, a, b api.State, v, w []api.Atom, name string) {
	t.Helper()
	f, g := lookup.Find(a, v, name), lookup.Find(b, w, name)
	kept := atoms.Within(lookup.Reach(a, v, name), lookup.Reach(b, w, name)) && atoms.Within(f.Vals, g.Vals)
	if !kept || f.Dyn && !g.Dyn || f.Some && !g.Some || g.Sure && !f.Sure {
		t.Fatalf("%v within %v, %v within %v, but not what is found of %q: %v, %v", a, b, v, w, name, f, g)
	}
}

// wantOwn is P10.2: the prototype of an object that has the property surely is of no moment.
func wantOwn(t *testing.T, s api.State, v []api.Atom, name string) {
	t.Helper()
	f, l := lookup.Find(s, v, name), lookup.Reach(s, v, name)
	for _, x := range s.Locs {
		o := x.Shape
		if own, _ := object.Get(o, name); !own.Sure || !state.May(s) || s.Dead {
			continue
		}
		for _, proto := range [][]api.Atom{nil, {dyn}, {null, rec(0), rec(1), sum(0)}} {
			o.Proto = proto
			other := state.Put(s, x.Atom, o)
			if !same(lookup.Find(other, v, name), f) || !slices.Equal(lookup.Reach(other, v, name), l) {
				t.Fatalf("%v, %v, %q: %v, %v; not with another prototype: %v", s, v, name, f, l, other)
			}
		}
	}
}

// rows is all lists of at most so many of these, in any order, also of one twice.
func rows[T any](of []T, most int) [][]T {
	all := [][]T{nil}
	for at := 0; at < len(all); at++ {
		if len(all[at]) == most {
			break
		}
		for _, x := range of {
			all = append(all, append(slices.Clone(all[at]), x))
		}
	}
	return all
}

// at is all objects at these atoms, of these shapes.
func at(of []api.Atom, shapes ...api.Shape) []api.Loc {
	var l []api.Loc
	for _, x := range of {
		for _, o := range shapes {
			l = append(l, loc(x, o))
		}
	}
	return l
}

// asked are lists of which the property is asked, each of which may be.
func asked() [][]api.Atom {
	return [][]api.Atom{nil, {null}, {rec(0)}, {rec(1)}, {sum(0)}, {dyn}, {rec(0), sum(0)}, {rec(0), rec(1), sum(0)}, {null, rec(0)}, {num, rec(1), dyn}, {null, num, rec(0), rec(1), sum(0), dyn}}
}

// P10.1, P10.2: all states of few objects, in any order, also of one atom twice.
func TestAllStates(t *testing.T) {
	objects := at(list(rec(0), rec(1), sum(0)), shape(list(null)), shape(list(rec(0), rec(1)), perhaps("p", num)), shape(list(rec(1), sum(0))), shape(list(sum(0), dyn), sure("p", null, rec(1))), shape(list(rec(0), sum(1)), perhaps("p")))
	for _, l := range rows(objects, 3) {
		for _, v := range asked() {
			wantWords(t, locs(l...), v, "p")
			wantOwn(t, locs(l...), v, "p")
		}
	}
}

// P10.1: all states of few objects that may not be, by their atoms, their shapes, or as dead ones; and lists that may not be.
func TestAllWrongStates(t *testing.T) {
	wrong := list(rec(1), rec(-1), dyn, num, rec(1), sum(0))
	objects := at(list(rec(0), rec(1), sum(0), num, dyn, rec(-1), api.Atom{Kind: 9}), shape(wrong), shape(wrong, sure("q"), perhaps("p", num, null)), shape(wrong, sure("p", dyn, rec(-1), num), perhaps("p", num)), shape(list(sum(0)), perhaps("p", boolean), sure("p")))
	lists := append(asked(), wrong, list(rec(0), num, rec(0)), list(rec(-1)), list(dyn, null, sum(0)), list(api.Atom{Kind: 9}, rec(0)))
	for _, l := range rows(objects, 2) {
		for _, v := range lists {
			for _, name := range []string{"p", "q", ""} {
				wantWords(t, locs(l...), v, name)
				wantWords(t, api.State{Dead: true, Locs: l}, v, name)
			}
		}
	}
}

// P10.2: all pairs of small states, and of lists, of which one is within the other one.
func TestAllPairs(t *testing.T) {
	all := []api.State{{Dead: true}}
	for _, l := range rows(at(list(rec(0), rec(1), sum(0)), shape(list(null)), shape(list(null, rec(1))), shape(list(rec(1)), perhaps("p", num)), shape(list(rec(1)), sure("p", num)), shape(list(rec(1), sum(0), dyn), perhaps("p", null, num))), 3) {
		if s := locs(l...); state.May(s) {
			all = append(all, s)
		}
	}
	for _, a := range all {
		for _, b := range all {
			if !state.Within(a, b) {
				continue
			}
			for _, v := range asked() {
				for _, w := range asked() {
					if atoms.Within(v, w) {
						wantWithin(t, a, b, v, w, "p")
					}
				}
			}
		}
	}
}

// P10.2: of a join comes at least what comes of each of both.
func TestJoins(t *testing.T) {
	var all []api.State
	for _, l := range rows(at(list(rec(0), sum(0)), shape(list(null)), shape(list(sum(0)), perhaps("p", num)), shape(list(rec(0), sum(0)), sure("p", null)), shape(list(dyn), sure("q"))), 2) {
		if s := locs(l...); state.May(s) {
			all = append(all, s)
		}
	}
	for _, a := range all {
		for _, b := range all {
			join := state.Join(a, b)
			for _, v := range asked() {
				for _, name := range []string{"p", "q"} {
					wantWords(t, join, v, name)
					wantWithin(t, a, join, v, v, name)
					wantWithin(t, b, join, v, v, name)
				}
			}
		}
	}
}

// grown is a state that bytes tell, and a list; most are such that may be.
func grown(told []byte) (api.State, []api.Atom) {
	next := func() int {
		if len(told) == 0 {
			return 0
		}
		c := int(told[0])
		told = told[1:]
		return c
	}
	vals := func() []api.Atom {
		var l []api.Atom
		for range next() % 4 {
			c := next()
			l = append(l, api.Atom{Kind: c%10 - 1, N: c/10%5 - 1})
		}
		if next()%8 > 0 {
			l = atoms.Norm(l)
		}
		return l
	}
	v := vals()
	s := api.State{Dead: next()%16 == 1}
	for len(told) > 0 {
		c := next()
		o := api.Shape{Proto: vals()}
		for i, name := range []string{"p", "q"} {
			if c>>i&1 == 1 {
				o.Fields = append(o.Fields, api.Field{Name: name, Sure: c>>i&4 == 4, Vals: vals()})
			}
		}
		x := list(rec(0), rec(1), rec(2), sum(0), sum(1), sum(2), rec(-1), num)[c/16%8]
		if put := state.Put(s, x, o); c < 192 && state.May(s) && state.May(put) {
			s = put
			continue
		}
		s.Locs = append(s.Locs, loc(x, o))
	}
	return s, v
}

// FuzzLookup holds both calls against the chapter, of states that bytes tell.
func FuzzLookup(f *testing.F) {
	for _, s := range []string{"", "\x00", "\x01\x0f\x01", "abc", "\x01\x0f\x01\x00\x05\x01\x10\x01\x01\x03\x01", "\xff\xfe\xfd\x00\x01", "\x02\x0f\x19\x01\x01\x10\x01\x10\x01\x11\x01\x0f\x01"} {
		f.Add([]byte(s), []byte(s))
		f.Add([]byte(s), []byte("\x01\x0f\x01\x00\x31\x02\x0f\x10\x01\x01\x03\x01\x05\x01\x10\x01"))
	}
	f.Fuzz(func(t *testing.T, first, second []byte) {
		a, v := grown(first[:min(len(first), 100)])
		b, w := grown(second[:min(len(second), 100)])
		for _, name := range []string{"p", "q", ""} {
			wantWords(t, a, v, name)
			wantWords(t, b, w, name)
			wantOwn(t, a, v, name)
			if state.May(a) && state.May(b) {
				wantWithin(t, a, state.Join(a, b), v, atoms.Union(v, w), name)
			}
		}
	})
}
