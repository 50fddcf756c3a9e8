package update_test

import (
	"protean/api"
	"protean/atoms"
	"protean/object"
	"protean/state"
	"protean/update"
	"slices"
	"testing"
)

// changedWords is a state of which the objects are changed, each as it is told.
func changedWords(s api.State, change func(l api.Loc) api.Shape) api.State {
	switch {
	case !state.May(s):
		return api.State{}
	case s.Dead:
		return dead
	}
	changed := api.State{Vars: s.Vars}
	for _, l := range s.Locs {
		changed.Locs = append(changed.Locs, loc(l.Atom, change(l)))
	}
	return changed
}

// writtenWords is P11.1, word by word.
func writtenWords(s api.State, v []api.Atom, name string, w []api.Atom) api.State {
	v, w = atoms.Norm(v), atoms.Norm(w)
	return changedWords(s, func(l api.Loc) api.Shape {
		switch {
		case strongWords(v):
			if l.Atom == v[0] {
				return object.Strong(l.Shape, name, w)
			}
		case slices.Contains(v, dyn), slices.Contains(v, l.Atom):
			return object.Weak(l.Shape, name, w)
		}
		return l.Shape
	})
}

// strongWords is P11.1, word by word.
func strongWords(v []api.Atom) bool {
	v = atoms.Norm(v)
	return len(v) == 1 && v[0].Kind == api.AtRec
}

// havocWords is P11.2, word by word.
func havocWords(s api.State, names []string) api.State {
	return changedWords(s, func(l api.Loc) api.Shape {
		o := l.Shape
		for _, name := range names {
			o = object.Weak(o, name, list(dyn))
		}
		return o
	})
}

// wantWrite holds one call of Write against the chapter, and against P11.3.
func wantWrite(t *testing.T, s api.State, v []api.Atom, name string, w []api.Atom) {
	t.Helper()
	got := update.Write(s, v, name, w)
	if want := writtenWords(s, v, name, w); !same(got, want) || !state.May(got) {
		t.Fatalf("%v: Write to %v of %q: %v: %v; want %v", s, v, name, w, got, want)
	}
	if update.Strong(v) != strongWords(v) {
		t.Fatalf("Strong of %v: %v", v, update.Strong(v))
	}
	if again := update.Write(got, v, name, w); !same(again, got) {
		t.Fatalf("%v: Write to %v of %q: %v: %v; again: %v", s, v, name, w, got, again)
	}
	if state.May(s) {
		wantStay(t, s, got, []string{name})
	}
	if !update.Strong(v) {
		return
	}
	x := atoms.Norm(v)[0]
	o, there := state.Loc(got, x)
	if p, has := object.Get(o, name); there && (!has || !p.Sure || !slices.Equal(p.Vals, atoms.Norm(w))) {
		t.Fatalf("%v: Write to %v of %q: %v: %v; it is %v", s, v, name, w, got, p)
	}
	for _, l := range got.Locs {
		if was, _ := state.Loc(s, l.Atom); l.Atom != x && !sameShape(l.Shape, was) {
			t.Fatalf("%v: Write to %v of %q: %v: %v; %v is changed", s, v, name, w, got, l.Atom)
		}
	}
}

// wantHavoc holds one call of Havoc against the chapter, and against P11.3.
func wantHavoc(t *testing.T, s api.State, names []string) {
	t.Helper()
	got := update.Havoc(s, names)
	if want := havocWords(s, names); !same(got, want) || !state.May(got) {
		t.Fatalf("%v: Havoc of %q: %v; want %v", s, names, got, want)
	}
	if again := update.Havoc(got, names); !same(again, got) {
		t.Fatalf("%v: Havoc of %q: %v; again: %v", s, names, got, again)
	}
	one := s
	for _, name := range names {
		one = update.Write(one, list(null, dyn), name, list(dyn))
	}
	if len(names) > 0 && !same(one, got) {
		t.Fatalf("%v: Havoc of %q: %v; written to anything one by one: %v", s, names, got, one)
	}
	if state.May(s) {
		wantStay(t, s, got, names)
	}
}

// wantStay is P11.3: variables, prototypes and all properties but these stay.
func wantStay(t *testing.T, s, got api.State, names []string) {
	t.Helper()
	without := func(s api.State) api.State {
		s.Locs = slices.Clone(s.Locs)
		for i := range s.Locs {
			o := &s.Locs[i].Shape
			o.Fields = slices.DeleteFunc(slices.Clone(o.Fields), func(f api.Field) bool { return slices.Contains(names, f.Name) })
		}
		return s
	}
	if !same(without(s), without(got)) {
		t.Fatalf("%v, written to %q: %v; others are changed", s, names, got)
	}
}

// wantBoth: what a state is within is written to what it is then within; and of a join comes the join.
func wantBoth(t *testing.T, a, b api.State, v []api.Atom, name string, w []api.Atom) {
	t.Helper()
	if !state.May(a) || !state.May(b) {
		return
	}
	join := state.Join(a, b)
	c, d := update.Write(a, v, name, w), update.Write(b, v, name, w)
	if got, want := update.Write(join, v, name, w), state.Join(c, d); !same(got, want) {
		t.Fatalf("%v, %v: Write to %v of %q: %v of their Join: %v; Join of what is written: %v", a, b, v, name, w, got, want)
	}
	if state.Within(a, b) && !state.Within(c, d) {
		t.Fatalf("%v within %v, but not what is written to %v of %q: %v: %v, %v", a, b, v, name, w, c, d)
	}
	e, f := update.Havoc(a, []string{"q", name}), update.Havoc(b, []string{"q", name})
	if state.Within(a, b) && !state.Within(e, f) {
		t.Fatalf("%v within %v, but not what nobody knows whom wrote: %v, %v", a, b, e, f)
	}
	if got, want := update.Havoc(join, []string{"q", name}), state.Join(e, f); !same(got, want) {
		t.Fatalf("%v, %v: Havoc of their Join: %v; Join of Havoc: %v", a, b, got, want)
	}
}

// wantMore: what is written to somebody is within what is written, with more, to more that it may be.
func wantMore(t *testing.T, s api.State, v, more []api.Atom, name string, w []api.Atom) {
	t.Helper()
	less, all := update.Write(s, v, name, w), update.Write(s, atoms.Union(v, more), name, append(w, num))
	if state.May(s) && len(atoms.Norm(v)) > 0 && !state.Within(less, all) {
		t.Fatalf("%v: written to %v: %v; not within what is written to %v, too: %v", s, v, less, more, all)
	}
}

// rows is all lists of at most so many of these, in any order, also of one twice.
func rows[T any](of []T, most int) [][]T {
	all := [][]T{nil}
	for at := 0; at < len(all); at++ {
		if len(all[at]) == most {
			break
		}
		for _, x := range of {
			all = append(all, append(slices.Clone(all[at]), x))
		}
	}
	return all
}

// states is all states of at most so many of these variables and objects, be they such as may be or not, living and dead.
func states(variables []api.Bind, objects []api.Loc, most int) []api.State {
	var all []api.State
	for _, v := range rows(variables, most) {
		for _, l := range rows(objects, most) {
			all = append(all, api.State{Vars: v, Locs: l}, api.State{Dead: true, Vars: v, Locs: l})
		}
	}
	return all
}

// living is those that may be.
func living(l []api.State) []api.State {
	return slices.DeleteFunc(l, func(s api.State) bool { return !state.May(s) })
}

// at is all objects at these atoms, of these shapes.
func at(of []api.Atom, shapes ...api.Shape) []api.Loc {
	var l []api.Loc
	for _, x := range of {
		for _, o := range shapes {
			l = append(l, loc(x, o))
		}
	}
	return l
}

// asked are lists to which is written, such as may be and such as may not.
func asked() [][]api.Atom {
	return [][]api.Atom{
		nil, {null}, {rec(0)}, {rec(1)}, {sum(0)}, {dyn}, {rec(0), sum(0)}, {rec(0), rec(1)}, {null, rec(0)}, {num, rec(1), dyn}, {rec(0), rec(0)}, {sum(0), sum(0)},
		{sum(0), rec(0)}, {rec(0), {Kind: api.AtDyn, N: 1}}, {{Kind: api.AtDyn, N: 1}}, {rec(-1), rec(1), {Kind: 9}}, {rec(2)}, {sum(1), rec(2), fun(0)},
	}
}

// P11.1, P11.2, P11.3: all short states, such as may be and such as may not.
func TestAllStates(t *testing.T) {
	variables := []api.Bind{bind("x", rec(0), sum(1)), bind("y", num, null)}
	objects := at(list(rec(0), rec(1), sum(0), num), of(rec(0)), shape(sure("p", rec(0), sum(1)), perhaps("q", null)), shape(sure("q"), sure("p")))
	for _, s := range append(states(variables, objects, 2), wrong()...) {
		for _, v := range asked() {
			wantWrite(t, s, v, "p", list(null))
		}
		for _, names := range rows([]string{"p", "r"}, 2) {
			wantHavoc(t, s, names)
		}
	}
}

// P11.1, P11.3: all lists to which is written, all names, and all that is written, short ones.
func TestAllWrites(t *testing.T) {
	s := with(vars(bind("x", rec(0))), loc(rec(0), shape(perhaps("p", num), sure("q", rec(1)))), loc(rec(1), of(rec(0))), loc(sum(0), shape(sure("p"))), loc(sum(1), of(dyn)))
	for _, v := range rows(list(null, rec(0), rec(1), rec(2), sum(0), dyn, rec(-1), api.Atom{Kind: api.AtDyn, N: 1}), 3) {
		for _, w := range rows(list(null, rec(0), dyn, rec(-1)), 2) {
			for _, name := range []string{"", "p", "q", "r"} {
				wantWrite(t, s, v, name, w)
			}
		}
		wantMore(t, s, v, list(sum(1)), "p", list(null))
		wantMore(t, s, v, list(rec(0), num), "r", list(null))
	}
}

// P11.2, P11.3: all short rows of names, and all shapes of few properties.
func TestAllHavocs(t *testing.T) {
	fields := []api.Field{sure("b", num), perhaps("b"), sure("d"), perhaps("d", null, dyn), perhaps("f", num)}
	for _, l := range rows(fields, 3) {
		s := locs(loc(rec(0), api.Shape{Fields: l}))
		if !state.May(s) {
			continue
		}
		for _, names := range rows([]string{"", "b", "c", "d", "e", "f", "g"}, 4) {
			wantHavoc(t, s, names)
		}
	}
}

// P11.3: all pairs of small states.
func TestAllPairs(t *testing.T) {
	objects := at(list(rec(0), rec(1), sum(0)), of(rec(0)), shape(sure("p", num)), shape(perhaps("p", num, rec(0)), perhaps("q", num)))
	all := living(states([]api.Bind{bind("x", rec(0)), bind("x", rec(0), sum(0))}, objects, 2))
	for _, a := range all {
		for _, b := range all {
			for _, v := range [][]api.Atom{{rec(0)}, {rec(0), sum(0)}, {dyn}, {sum(0)}} {
				wantBoth(t, a, b, v, "p", list(null))
			}
			wantBoth(t, a, b, list(rec(1)), "r", list(null, dyn))
		}
	}
}

// bytes tells what it has, one by one, and then 0.
type bytes struct{ told []byte }

func (b *bytes) next() int {
	if len(b.told) == 0 {
		return 0
	}
	c := int(b.told[0])
	b.told = b.told[1:]
	return c
}

// name is one of few names.
func (b *bytes) name() string {
	return []string{"p", "", "p\x00", "q", "r", "\xff"}[b.next()%6]
}

// atoms is a short list of atoms; most are such that may be.
func (b *bytes) atoms() []api.Atom {
	var l []api.Atom
	for range b.next() % 4 {
		c := b.next()
		l = append(l, api.Atom{Kind: c%9 - 1, N: c/9%4 - 1})
	}
	if b.next()%8 > 0 {
		l = atoms.Norm(l)
	}
	return l
}

// state is a state of few variables and objects; most are such that may be.
func (b *bytes) state() api.State {
	s := api.State{Dead: b.next()%16 == 1}
	for range b.next() % 3 {
		s = state.Set(s, b.name(), b.atoms())
	}
	for range b.next() % 5 {
		x := list(rec(0), rec(1), sum(0), sum(1), rec(2))[b.next()%5]
		o := api.Shape{Proto: b.atoms()}
		for range b.next() % 4 {
			o = object.Weak(o, b.name(), b.atoms())
			if c := b.next(); c%2 == 1 {
				o = object.Strong(o, b.name(), b.atoms())
			}
		}
		if !object.May(o) && b.next()%4 > 0 {
			continue
		}
		if object.May(o) {
			s = state.Put(s, x, o)
		} else {
			s.Locs = append(s.Locs, loc(x, o))
		}
	}
	return s
}

// names is a short list of names.
func (b *bytes) names() []string {
	var l []string
	for range b.next() % 6 {
		l = append(l, b.name())
	}
	return l
}

// FuzzUpdate holds all calls against the chapter, of what bytes tell.
func FuzzUpdate(f *testing.F) {
	for _, s := range []string{"", "\x00", "\x01", "abc", "\x00\x01\x01\x01\x0e\x01\x02\x00\x01\x2f\x01\x02\x00\x01\x04\x01\x00", "\xff\xfe\xfd\x00\x01", "\x00\x00\x03\x00\x01\x01\x01\x02\x00\x01\x0c\x01\x01\x03\x02\x02\x01\x02\x02\x01\x00\x01"} {
		for _, more := range []string{"", "\x01\x0f\x01\x00", "\x02\x07\x0e\x01\x03\x01\x02\x01\x04\x03\x00\x01\x02"} {
			f.Add([]byte(s), []byte(more))
		}
	}
	f.Fuzz(func(t *testing.T, first, second []byte) {
		told, more := &bytes{first[:min(len(first), 200)]}, &bytes{second[:min(len(second), 100)]}
		v, w, name, names := more.atoms(), more.atoms(), more.name(), more.names()
		a := told.state()
		b := told.state()
		for _, s := range []api.State{a, b} {
			wantWrite(t, s, v, name, w)
			wantHavoc(t, s, names)
			wantMore(t, s, v, more.atoms(), name, w)
		}
		wantBoth(t, a, b, v, name, w)
		wantBoth(t, a, state.Join(a, b), v, name, w)
	})
}
