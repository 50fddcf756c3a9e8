package state_test

import (
	"protean/api"
	"protean/atoms"
	"protean/object"
	"protean/state"
	"slices"
	"testing"
)

// ahead: the atom x stands ahead of y.
func ahead(x, y api.Atom) bool {
	return x.Kind < y.Kind || x.Kind == y.Kind && x.N < y.N
}

// placeWords: there may be an object at x, by the chapter's words.
func placeWords(x api.Atom) bool {
	return (x.Kind == 4 || x.Kind == 5) && x.N >= 0
}

// mayWords: a state may be, by the chapter's words.
func mayWords(s api.State) bool {
	for i, b := range s.Vars {
		for _, c := range s.Vars[i+1:] {
			if c.Name <= b.Name {
				return false
			}
		}
		if !atoms.May(b.Vals) {
			return false
		}
	}
	for i, l := range s.Locs {
		for _, m := range s.Locs[i+1:] {
			if !ahead(l.Atom, m.Atom) {
				return false
			}
		}
		if !placeWords(l.Atom) || !object.May(l.Shape) {
			return false
		}
	}
	return !s.Dead || len(s.Vars)+len(s.Locs) == 0
}

// varWords is P8.1's Var, word by word.
func varWords(s api.State, name string) []api.Atom {
	i := slices.IndexFunc(s.Vars, func(b api.Bind) bool { return b.Name == name })
	if i < 0 {
		return list(null)
	}
	return s.Vars[i].Vals
}

// locWords is P8.1's Loc, word by word.
func locWords(s api.State, x api.Atom) (api.Shape, bool) {
	i := slices.IndexFunc(s.Locs, func(l api.Loc) bool { return l.Atom == x })
	if i < 0 {
		return api.Shape{}, false
	}
	return s.Locs[i].Shape, true
}

// varsOf is the variables of a state by their names.
func varsOf(s api.State) map[string][]api.Atom {
	l := map[string][]api.Atom{}
	for _, b := range s.Vars {
		l[b.Name] = b.Vals
	}
	return l
}

// locsOf is the objects of a state by their atoms.
func locsOf(s api.State) map[api.Atom]api.Shape {
	l := map[api.Atom]api.Shape{}
	for _, m := range s.Locs {
		l[m.Atom] = m.Shape
	}
	return l
}

// built is the state of these variables and of these objects.
func built(variables map[string][]api.Atom, objects map[api.Atom]api.Shape) api.State {
	var s api.State
	for name, v := range variables {
		place := 0
		for place < len(s.Vars) && s.Vars[place].Name < name {
			place++
		}
		s.Vars = slices.Insert(s.Vars, place, api.Bind{Name: name, Vals: v})
	}
	for x, o := range objects {
		place := 0
		for place < len(s.Locs) && ahead(s.Locs[place].Atom, x) {
			place++
		}
		s.Locs = slices.Insert(s.Locs, place, loc(x, o))
	}
	return s
}

// setWords is P8.2's Set, word by word.
func setWords(s api.State, name string, v []api.Atom) api.State {
	if !mayWords(s) {
		return api.State{}
	}
	if s.Dead {
		return s
	}
	variables := varsOf(s)
	variables[name] = atoms.Norm(v)
	return built(variables, locsOf(s))
}

// putWords is P8.2's Put, word by word.
func putWords(s api.State, x api.Atom, o api.Shape) api.State {
	if !mayWords(s) || !placeWords(x) || !object.May(o) {
		return api.State{}
	}
	if s.Dead {
		return s
	}
	objects := locsOf(s)
	objects[x] = o
	return built(varsOf(s), objects)
}

// joinWords is P8.3's Join, word by word.
func joinWords(a, b api.State) api.State {
	switch {
	case !mayWords(a) || !mayWords(b):
		return api.State{}
	case a.Dead:
		return b
	case b.Dead:
		return a
	}
	variables, objects := varsOf(a), locsOf(a)
	for name := range varsOf(b) {
		variables[name] = nil
	}
	for name := range variables {
		variables[name] = atoms.Union(varWords(a, name), varWords(b, name))
	}
	for x, o := range locsOf(b) {
		if p, there := objects[x]; there {
			o = object.Join(p, o)
		}
		objects[x] = o
	}
	return built(variables, objects)
}

// withinWords is P8.3's Within, word by word.
func withinWords(a, b api.State) bool {
	if !mayWords(a) || !mayWords(b) {
		return false
	}
	is := !b.Dead
	for _, v := range slices.Concat(a.Vars, b.Vars) {
		is = is && atoms.Within(varWords(a, v.Name), varWords(b, v.Name))
	}
	for _, l := range a.Locs {
		o, there := locWords(b, l.Atom)
		is = is && there && object.Within(l.Shape, o)
	}
	return a.Dead || is
}

// textWords is P8.4's Text, word by word.
func textWords(s api.State) string {
	if s.Dead {
		return "dead\n"
	}
	text := ""
	for _, b := range s.Vars {
		text += b.Name + ":" + " " + atoms.Text(b.Vals) + "\n"
	}
	for _, l := range s.Locs {
		text += atoms.Text(list(l.Atom)) + ":"
		for _, f := range l.Shape.Fields {
			text += " " + f.Name + map[bool]string{true: "!", false: "?"}[f.Sure] + "(" + atoms.Text(f.Vals) + ")"
		}
		text += " proto (" + atoms.Text(l.Shape.Proto) + ")" + "\n"
	}
	return text
}

// names are those of variables that states are asked for, around those that they have.
func names() []string { return []string{"", "x", "x\x00", "y", "z"} }

// values are lists that variables are set to: some that may be, some that may not.
func values() [][]api.Atom {
	return [][]api.Atom{nil, list(null), list(rec(0), null), list(sum(0), sum(0)), list(rec(-1)), list(dyn, api.Atom{Kind: 9}, null, dyn)}
}

// places are atoms that states are asked for, and at which shapes are put.
func places() []api.Atom {
	return list(rec(0), rec(1), rec(2), sum(0), sum(1), rec(-1), num, fun(1), dyn)
}

// objects are shapes that are put: some that may be, some that may not.
func objects() []api.Shape {
	return []api.Shape{{}, shape(sure("p", num), perhaps("q")), of(rec(0), sum(1)), of(num, null), shape(sure("q"), sure("p")), shape(sure("p", num, num))}
}

// wantWords holds the calls of one state against the chapter.
func wantWords(t *testing.T, s api.State) {
	t.Helper()
	if got, w := state.May(s), mayWords(s); got != w {
		t.Fatalf("%v: May %v; want %v", s, got, w)
	}
	if got, w := state.Text(s), textWords(s); got != w {
		t.Fatalf("%v: Text %q; want %q", s, got, w)
	}
	for _, name := range names() {
		if got, w := state.Var(s, name), varWords(s, name); !slices.Equal(got, w) {
			t.Fatalf("%v: Var %q: %v; want %v", s, name, got, w)
		}
		for _, v := range values() {
			if got, w := state.Set(s, name, v), setWords(s, name, v); !same(got, w) || !state.May(got) {
				t.Fatalf("%v: Set %q %v: %v; want %v", s, name, v, got, w)
			}
		}
	}
	for _, x := range places() {
		o, ok := state.Loc(s, x)
		if w, is := locWords(s, x); ok != is || !sameShape(o, w) {
			t.Fatalf("%v: Loc %v: %v %v; want %v %v", s, x, o, ok, w, is)
		}
		for _, o := range objects() {
			if got, w := state.Put(s, x, o), putWords(s, x, o); !same(got, w) || !state.May(got) {
				t.Fatalf("%v: Put %v %v: %v; want %v", s, x, o, got, w)
			}
		}
	}
}

// plain is s without the variables that are null alone: they are as those that are not there.
func plain(s api.State) api.State {
	s.Vars = slices.DeleteFunc(slices.Clone(s.Vars), func(b api.Bind) bool { return slices.Equal(b.Vals, list(null)) })
	return s
}

// wantBoth holds the calls of two states against the chapter, and against P8.5.
func wantBoth(t *testing.T, a, b api.State) {
	t.Helper()
	if got, w := state.Within(a, b), withinWords(a, b); got != w {
		t.Fatalf("%v within %v: %v; want %v", a, b, got, w)
	}
	join := state.Join(a, b)
	if w := joinWords(a, b); !same(join, w) || !state.May(join) {
		t.Fatalf("%v, %v: Join %v; want %v", a, b, join, w)
	}
	if got := state.Join(b, a); !same(got, join) {
		t.Fatalf("%v, %v: Join %v, in the other order %v", a, b, join, got)
	}
	if !state.May(a) || !state.May(b) {
		return
	}
	for _, s := range []api.State{a, b, join} {
		if !state.Within(s, join) {
			t.Fatalf("%v, %v: Join %v; %v is not within", a, b, join, s)
		}
		if got := state.Join(join, s); !same(got, join) {
			t.Fatalf("%v, %v: Join %v; of %v, taken again, comes %v", a, b, join, s, got)
		}
	}
	if each := state.Within(a, b) && state.Within(b, a); each != same(plain(a), plain(b)) {
		t.Fatalf("%v, %v: within each other: %v", a, b, each)
	}
	if in := state.Within(a, b); in != same(plain(join), plain(b)) {
		t.Fatalf("%v within %v: %v; Join %v", a, b, in, join)
	}
}

// rows is all lists of at most so many of these, in any order, also of one twice.
func rows[T any](of []T, most int) [][]T {
	all := [][]T{nil}
	for at := 0; at < len(all); at++ {
		if len(all[at]) == most {
			break
		}
		for _, x := range of {
			all = append(all, append(slices.Clone(all[at]), x))
		}
	}
	return all
}

// states is all states of at most so many of these variables and objects, be they such as may be or not, living and dead.
func states(variables []api.Bind, objects []api.Loc, most int) []api.State {
	var all []api.State
	for _, v := range rows(variables, most) {
		for _, l := range rows(objects, most) {
			all = append(all, api.State{Vars: v, Locs: l}, api.State{Dead: true, Vars: v, Locs: l})
		}
	}
	return all
}

// living is those that may be.
func living(l []api.State) []api.State {
	return slices.DeleteFunc(l, func(s api.State) bool { return !mayWords(s) })
}

// each is all variables of these names and of these Vals.
func each(of []string, lists ...[]api.Atom) []api.Bind {
	var l []api.Bind
	for _, name := range of {
		for _, v := range lists {
			l = append(l, bind(name, v...))
		}
	}
	return l
}

// at is all objects at these atoms, of these shapes.
func at(of []api.Atom, shapes ...api.Shape) []api.Loc {
	var l []api.Loc
	for _, x := range of {
		for _, o := range shapes {
			l = append(l, loc(x, o))
		}
	}
	return l
}

// P8.1, P8.2, P8.4: all short states, with names and atoms in any order and that stand twice, with lists and shapes that may be and that may not.
func TestAllStates(t *testing.T) {
	few := each([]string{"", "x"}, nil, list(null, rec(0)), list(num, null))
	objects := at(list(rec(0), sum(0), num), of(), shape(sure("q"), sure("p")))
	for _, s := range states(few, objects, 2) {
		wantWords(t, s)
	}
	for _, v := range rows(each([]string{"", "x", "y", "z"}, nil, list(null)), 4) {
		wantWords(t, api.State{Vars: v})
	}
	for _, l := range rows(at(list(rec(0), rec(1), rec(-1), sum(0), sum(1)), of(null), shape(sure("p", num))), 3) {
		wantWords(t, api.State{Locs: l})
	}
}

// P8.3, P8.5: all pairs of small states that may be.
func TestAllPairs(t *testing.T) {
	all := living(states(each([]string{"x", "y"}, nil, list(null), list(num)), at(list(rec(0), sum(0)), of(), shape(sure("p", num))), 2))
	all = append(all, living(states(each([]string{"x"}, nil, list(null, rec(0))), at(list(rec(0), rec(1), sum(0)), of(null), shape(perhaps("p"))), 3))...)
	for _, a := range all {
		wantWords(t, a)
		for _, b := range all {
			wantBoth(t, a, b)
		}
	}
}

// P8.3: all pairs of states of which one may not be, or both.
func TestPairsThatMayNotBe(t *testing.T) {
	all := append(wrong(), right()...)
	for _, a := range all {
		wantWords(t, a)
		for _, b := range all {
			wantBoth(t, a, b)
		}
	}
}

// P8.5: a join is within whatever else has both within it.
func TestJoinIsLeast(t *testing.T) {
	all := living(states(each([]string{"x", "y"}, nil, list(null), list(num)), at(list(rec(0), sum(0)), shape(sure("p"))), 2))
	all = append(all, living(states(each([]string{"x"}, list(null, num)), at(list(rec(0)), of(), shape(perhaps("p")), shape(sure("p", num))), 1))...)
	for _, a := range all {
		for _, b := range all {
			join := state.Join(a, b)
			for _, c := range all {
				if both := state.Within(a, c) && state.Within(b, c); both != state.Within(join, c) {
					t.Fatalf("%v, %v, both within %v: %v, but not their Join %v", a, b, c, both, join)
				}
			}
		}
	}
}

// P8.5: of three states the join is the same, whichever two are taken first.
func TestJoinInAnyOrder(t *testing.T) {
	all := living(states(each([]string{"x", "y"}, nil, list(num)), at(list(rec(0), sum(0)), of(null), shape(sure("p", num))), 2))
	for _, a := range all {
		for _, b := range all {
			for _, c := range all {
				left, right := state.Join(state.Join(a, b), c), state.Join(a, state.Join(c, b))
				if !same(left, right) {
					t.Fatalf("%v, %v, %v: %v and %v", a, b, c, left, right)
				}
			}
		}
	}
}

// What is within stays within when the same is set, and put, in both; and what was set, or put, is what one finds there.
func TestWrittenKeepsWithin(t *testing.T) {
	all := living(states(each([]string{"x", "y"}, list(null), list(num)), at(list(rec(0), sum(0)), of(null), shape(sure("p", num))), 2))
	o, more := shape(sure("p", num)), shape(perhaps("p", null, num))
	for _, a := range all {
		for _, b := range all {
			if !state.Within(a, b) {
				continue
			}
			kept := state.Within(state.Set(a, "x", list(num)), state.Set(b, "x", list(num, dyn)))
			kept = kept && state.Within(state.Put(a, rec(0), o), state.Put(b, rec(0), more))
			if !kept {
				t.Fatalf("%v within %v, but not written", a, b)
			}
		}
		if a.Dead {
			continue
		}
		wantVar(t, "set", state.Set(a, "x", list(dyn, num)), "x", num, dyn)
		wantVar(t, "set another", state.Set(a, "z", list(dyn)), "x", state.Var(a, "x")...)
		wantLoc(t, "put", state.Put(a, sum(0), more), sum(0), more, true)
		was, there := state.Loc(a, sum(0))
		wantLoc(t, "put another", state.Put(a, rec(0), more), sum(0), was, there)
	}
}

// grown is a state that bytes tell; most are such that may be.
func grown(told []byte) api.State {
	next := func() int {
		if len(told) == 0 {
			return 0
		}
		c := int(told[0])
		told = told[1:]
		return c
	}
	vals := func() []api.Atom {
		var l []api.Atom
		for range next() % 4 {
			c := next()
			l = append(l, api.Atom{Kind: c%10 - 1, N: c/10%4 - 1})
		}
		if next()%8 > 0 {
			l = atoms.Norm(l)
		}
		return l
	}
	s := api.State{Dead: next() == 1}
	for len(told) > 0 {
		c := next()
		if name := names()[c/2%5]; c%2 == 0 {
			s.Vars = append(s.Vars, api.Bind{Name: name, Vals: vals()})
			continue
		}
		o := api.Shape{Proto: vals()}
		if c%4 == 1 {
			o.Fields = append(o.Fields, api.Field{Name: "p", Sure: c%8 == 1, Vals: vals()})
		}
		s.Locs = append(s.Locs, loc(places()[c/8%9], o))
	}
	if len(s.Vars)%5 > 0 {
		s = built(varsOf(s), locsOf(s))
	}
	return s
}

// FuzzState holds all calls against the chapter, of states that bytes tell.
func FuzzState(f *testing.F) {
	for _, s := range []string{"", "\x00", "\x01", "abc", "\x00\x02\x01\x03\x01\x01\x01\x05\x01\x01\x17\x01", "\xff\xfe\xfd\x00\x01", "\x00\x09\x01\x01\x01\x00\x01\x04\x01\x02\x01"} {
		f.Add([]byte(s), []byte(s))
		f.Add([]byte(s), []byte("\x00\x06\x02\x01\x03\x01\x01\x01\x01\x01\x01\x0d\x01"))
	}
	f.Fuzz(func(t *testing.T, first, second []byte) {
		a, b := grown(first[:min(len(first), 100)]), grown(second[:min(len(second), 100)])
		wantWords(t, a)
		wantWords(t, b)
		wantBoth(t, a, b)
	})
}
