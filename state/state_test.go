package state_test

import (
	"fmt"
	"math"
	"protean/api"
	"protean/state"
	"slices"
	"strconv"
	"strings"
	"testing"
)

// Some atoms that may be.
var (
	null    = api.Atom{Kind: api.AtNull}
	boolean = api.Atom{Kind: api.AtBool}
	num     = api.Atom{Kind: api.AtNum}
	dyn     = api.Atom{Kind: api.AtDyn}
)

// dead is the state that is never come to.
var dead = api.State{Dead: true}

func fun(n int) api.Atom { return api.Atom{Kind: api.AtFun, N: n} }

func rec(n int) api.Atom { return api.Atom{Kind: api.AtRec, N: n} }

func sum(n int) api.Atom { return api.Atom{Kind: api.AtSum, N: n} }

func list(l ...api.Atom) []api.Atom { return l }

func sure(name string, v ...api.Atom) api.Field { return api.Field{Name: name, Sure: true, Vals: v} }

func perhaps(name string, v ...api.Atom) api.Field { return api.Field{Name: name, Vals: v} }

// shape is one whose prototype is null, of these properties.
func shape(fields ...api.Field) api.Shape { return api.Shape{Fields: fields, Proto: list(null)} }

// of is one whose prototype is told by these atoms, of no properties.
func of(proto ...api.Atom) api.Shape { return api.Shape{Proto: proto} }

func bind(name string, v ...api.Atom) api.Bind { return api.Bind{Name: name, Vals: v} }

func loc(x api.Atom, o api.Shape) api.Loc { return api.Loc{Atom: x, Shape: o} }

// vars is a state of these variables.
func vars(l ...api.Bind) api.State { return api.State{Vars: l} }

// locs is a state of these objects.
func locs(l ...api.Loc) api.State { return api.State{Locs: l} }

// with is s with these objects.
func with(s api.State, l ...api.Loc) api.State {
	s.Locs = l
	return s
}

// some is a state of several variables, and of newest and older objects.
func some() api.State {
	return with(vars(bind("b", num), bind("d", null, rec(1)), bind("f")),
		loc(rec(1), shape(sure("p", num), perhaps("q", rec(1), sum(1)))), loc(rec(3), of()), loc(sum(1), shape(perhaps("p", dyn))), loc(sum(4), of(sum(1))))
}

// wrongLists are lists of atoms that may not be.
func wrongLists() [][]api.Atom {
	return [][]api.Atom{
		list(num, null), list(num, num), list(sum(0), rec(0)), list(rec(2), rec(1)), list(null, num, null), list(dyn, dyn),
		list(api.Atom{Kind: -1}), list(api.Atom{Kind: api.AtKinds}), list(api.Atom{Kind: api.AtNum, N: 1}), list(rec(-1)), list(fun(math.MinInt)),
		list(null, api.Atom{Kind: math.MaxInt}),
	}
}

// wrongShapes are shapes that may not be.
func wrongShapes() []api.Shape {
	l := []api.Shape{
		shape(sure("q"), sure("p")), shape(sure("p"), sure("p")), shape(perhaps("p", num), sure("p", num)), shape(sure("p"), sure("q"), sure("p")), shape(sure("p"), sure("")),
	}
	for _, v := range wrongLists() {
		l = append(l, of(v...), shape(sure("p", v...)), shape(sure("p", num), perhaps("q", v...)))
	}
	return l
}

// wrongPlaces are atoms at which no object may be.
func wrongPlaces() []api.Atom {
	l := list(null, boolean, num, dyn, fun(0), fun(1), rec(-1), sum(-1), rec(math.MinInt), sum(math.MinInt))
	for _, kind := range []int{-1, api.AtKinds, 9, math.MinInt, math.MaxInt} {
		l = append(l, api.Atom{Kind: kind}, api.Atom{Kind: kind, N: 1})
	}
	return append(l, api.Atom{Kind: api.AtNull, N: 1}, api.Atom{Kind: api.AtDyn, N: 4})
}

// wrong are states that may not be, by their variables, by their objects, and as dead ones.
func wrong() []api.State {
	l := []api.State{
		vars(bind("q"), bind("p")), vars(bind("p"), bind("p")), vars(bind("p", null), bind("p", num)), vars(bind("p"), bind("q"), bind("p")),
		vars(bind("p"), bind("q"), bind("q")), vars(bind("p"), bind("")), vars(bind(""), bind("")), vars(bind("b"), bind("ab")), vars(bind("a"), bind("B")),
		vars(bind("10"), bind("9"), bind("11")), vars(bind("\xff"), bind("é")),
		locs(loc(rec(1), of()), loc(rec(0), of())), locs(loc(sum(0), of()), loc(rec(1), of())), locs(loc(rec(0), of()), loc(rec(0), of())),
		locs(loc(rec(0), of()), loc(sum(0), of(null)), loc(sum(0), of())), locs(loc(rec(0), of()), loc(sum(2), of()), loc(rec(1), of())), locs(loc(rec(10), of()), loc(rec(9), of())),
		{Dead: true, Vars: []api.Bind{bind("x")}}, {Dead: true, Vars: []api.Bind{bind("", null)}}, {Dead: true, Locs: []api.Loc{loc(rec(0), of())}},
		{Dead: true, Vars: []api.Bind{bind("x")}, Locs: []api.Loc{loc(rec(0), of())}},
	}
	for _, v := range wrongLists() {
		l = append(l, vars(bind("x", v...)), vars(bind("x", num), bind("y", v...)), with(vars(bind("x", v...)), loc(rec(0), of(null))))
	}
	for _, o := range wrongShapes() {
		l = append(l, locs(loc(rec(0), o)), locs(loc(rec(0), of()), loc(sum(0), o)), with(vars(bind("x", num)), loc(sum(1), o)))
	}
	for _, x := range wrongPlaces() {
		l = append(l, locs(loc(x, of(null))), with(vars(bind("x", num)), loc(x, of())))
		// Where it rises with the others, too.
		l = append(l, locs(loc(x, of()), loc(rec(0), of())), locs(loc(sum(9), of()), loc(x, of())))
	}
	return l
}

// right are states that may be.
func right() []api.State {
	return []api.State{
		{}, dead, {Vars: []api.Bind{}, Locs: []api.Loc{}}, {Dead: true, Vars: []api.Bind{}, Locs: []api.Loc{}}, some(),
		vars(bind("x")), vars(bind("x", null)), vars(bind("")), vars(bind("", num), bind("\x00", dyn)), vars(bind("B"), bind("a")), vars(bind("a"), bind("ab"), bind("b")),
		vars(bind("10"), bind("9")), vars(bind("é"), bind("\xff")), vars(bind("x", null, num, rec(7)), bind("x0", fun(3)), bind("x1", null)),
		locs(loc(rec(0), of())), locs(loc(sum(0), of(null))), locs(loc(rec(0), of()), loc(sum(0), of())), locs(loc(rec(9), of()), loc(rec(10), of())), locs(loc(rec(5), of()), loc(sum(0), of())),
		locs(loc(rec(math.MaxInt), of()), loc(sum(math.MaxInt), of())), with(vars(bind("x", rec(0))), loc(rec(0), shape(sure("p", num)))), with(vars(bind("x", rec(1))), loc(rec(0), of(sum(5)))),
	}
}

// cut is what is told of a value, which may be long.
func cut(x any) string {
	return fmt.Sprintf("%.300s", fmt.Sprint(x))
}

// same holds two states together; empty lists and nil ones are the same.
func same(a, b api.State) bool {
	return a.Dead == b.Dead && slices.EqualFunc(a.Vars, b.Vars, sameBind) && slices.EqualFunc(a.Locs, b.Locs, sameLoc)
}

func sameBind(a, b api.Bind) bool { return a.Name == b.Name && slices.Equal(a.Vals, b.Vals) }

func sameLoc(a, b api.Loc) bool { return a.Atom == b.Atom && sameShape(a.Shape, b.Shape) }

func sameShape(a, b api.Shape) bool {
	return slices.Equal(a.Proto, b.Proto) && slices.EqualFunc(a.Fields, b.Fields, func(f, g api.Field) bool {
		return f.Name == g.Name && f.Sure == g.Sure && slices.Equal(f.Vals, g.Vals)
	})
}

func wantState(t *testing.T, what string, got, want api.State) {
	t.Helper()
	if !same(got, want) {
		t.Errorf("%s: %s; want %s", what, cut(got), cut(want))
	}
}

func wantVar(t *testing.T, what string, s api.State, name string, want ...api.Atom) {
	t.Helper()
	if got := state.Var(s, name); !slices.Equal(got, want) {
		t.Errorf("%s: Var %q %v; want %v", what, name, cut(got), want)
	}
}

func wantLoc(t *testing.T, what string, s api.State, x api.Atom, want api.Shape, there bool) {
	t.Helper()
	if got, ok := state.Loc(s, x); ok != there || !sameShape(got, want) {
		t.Errorf("%s: Loc %v %s %v; want %s %v", what, x, cut(got), ok, cut(want), there)
	}
}

func wantBool(t *testing.T, what string, got, want bool) {
	t.Helper()
	if got != want {
		t.Errorf("%s: %v; want %v", what, got, want)
	}
}

func wantText(t *testing.T, s api.State, lines ...string) {
	t.Helper()
	want := ""
	for _, line := range lines {
		want += line + "\n"
	}
	if got := state.Text(s); got != want {
		t.Errorf("%s: Text %q; want %q", cut(s), got, want)
	}
}

// P8.3: the chapter's example.
func TestExample(t *testing.T) {
	x := vars(bind("x", num))
	wantText(t, state.Join(x, api.State{}), "x: null num")
	wantText(t, state.Join(api.State{}, x), "x: null num")
}

// P8.1: May, of states that may be, and that may not be.
func TestMay(t *testing.T) {
	for i, s := range right() {
		wantBool(t, "right "+strconv.Itoa(i), state.May(s), true)
	}
	for i, s := range wrong() {
		wantBool(t, "wrong "+strconv.Itoa(i), state.May(s), false)
	}
}

// P8.1: Var, of variables that are there, and that are not.
func TestVar(t *testing.T) {
	s := some()
	wantVar(t, "there", s, "b", num)
	wantVar(t, "there", s, "d", null, rec(1))
	wantVar(t, "there, nothing", s, "f")
	for _, name := range []string{"", "a", "B", "b ", "bb", "b\x00", "c", "p", "z", "\xff"} {
		wantVar(t, "not there", s, name, null)
		wantVar(t, "zero", api.State{}, name, null)
		wantVar(t, "dead", dead, name, null)
	}
	wantVar(t, "empty name", vars(bind("", num), bind("x", dyn)), "", num)
}

// P8.1: Var, of states that may not be: the first one of the name, as it stands there.
func TestVarOfWhatMayNotBe(t *testing.T) {
	twice := vars(bind("q", num, null, num), bind("p", dyn), bind("p", boolean), bind("q", boolean), bind("a", num))
	wantVar(t, "twice", twice, "p", dyn)
	wantVar(t, "twice", twice, "q", num, null, num)
	wantVar(t, "falling", twice, "a", num)
	wantVar(t, "not there", twice, "b", null)
	wantVar(t, "dead", api.State{Dead: true, Vars: twice.Vars}, "p", dyn)
	for _, v := range wrongLists() {
		wantVar(t, "Vals", vars(bind("p", v...)), "p", v...)
	}
	wantVar(t, "p p q", vars(bind("p", boolean), bind("p", num), bind("q")), "p", boolean)
	wantVar(t, "p p p", vars(bind("p", boolean), bind("p", num), bind("p", dyn)), "p", boolean)
}

// P8.1: Loc, of objects that are there, and that are not.
func TestLoc(t *testing.T) {
	s := some()
	for _, l := range s.Locs {
		wantLoc(t, "there", s, l.Atom, l.Shape, true)
	}
	for _, x := range append(wrongPlaces(), rec(0), rec(2), rec(4), sum(0), sum(3), sum(5), rec(math.MaxInt), sum(math.MaxInt)) {
		wantLoc(t, "not there", s, x, api.Shape{}, false)
		wantLoc(t, "zero", api.State{}, x, api.Shape{}, false)
		wantLoc(t, "dead", dead, x, api.Shape{}, false)
	}
}

// P8.1: Loc, of states that may not be: the first one of the atom, as it stands there, also where there may be no object.
func TestLocOfWhatMayNotBe(t *testing.T) {
	twice := locs(loc(sum(1), of(dyn)), loc(rec(2), of(num)), loc(rec(2), of(null)), loc(sum(1), of()), loc(rec(0), of(boolean)))
	wantLoc(t, "twice", twice, sum(1), of(dyn), true)
	wantLoc(t, "twice", twice, rec(2), of(num), true)
	wantLoc(t, "falling", twice, rec(0), of(boolean), true)
	wantLoc(t, "not there", twice, rec(1), api.Shape{}, false)
	wantLoc(t, "dead", api.State{Dead: true, Locs: twice.Locs}, rec(2), of(num), true)
	for _, o := range wrongShapes() {
		wantLoc(t, "Shape", locs(loc(rec(0), o)), rec(0), o, true)
	}
	for _, x := range wrongPlaces() {
		wantLoc(t, "place", locs(loc(rec(0), of(null)), loc(x, shape(sure("p", num)))), x, shape(sure("p", num)), true)
	}
}

// P8.2: Set, of variables that are there, and that are not; the others, and the objects, stay.
func TestSet(t *testing.T) {
	s := some()
	b, d, f := s.Vars[0], s.Vars[1], s.Vars[2]
	for _, c := range []struct {
		name string
		v    []api.Atom
		want []api.Bind
	}{
		{"b", list(null), []api.Bind{bind("b", null), d, f}},
		{"b", list(num), []api.Bind{b, d, f}},
		{"d", list(num, sum(1)), []api.Bind{b, bind("d", num, sum(1)), f}},
		{"f", list(dyn), []api.Bind{b, d, bind("f", dyn)}},
		{"", list(num), []api.Bind{bind("", num), b, d, f}},
		{"a", list(num), []api.Bind{bind("a", num), b, d, f}},
		{"bb", list(null), []api.Bind{b, bind("bb", null), d, f}},
		{"e", list(rec(9)), []api.Bind{b, d, bind("e", rec(9)), f}},
		{"g", list(num), []api.Bind{b, d, f, bind("g", num)}},
		{"\xff\x00", list(fun(2)), []api.Bind{b, d, f, bind("\xff\x00", fun(2))}},
		{"b", nil, []api.Bind{bind("b"), d, f}},
		{"e", list(), []api.Bind{b, d, bind("e"), f}},
		{"b", list(sum(1), null, sum(1)), []api.Bind{bind("b", null, sum(1)), d, f}},
		{"c", list(dyn, num, dyn, null), []api.Bind{b, bind("c", null, num, dyn), d, f}},
		{"b", list(rec(-1), num, api.Atom{Kind: 9}, api.Atom{Kind: api.AtNull, N: 1}), []api.Bind{b, d, f}},
		{"g", list(rec(-1)), []api.Bind{b, d, f, bind("g")}},
	} {
		wantState(t, fmt.Sprintf("Set %q %v", c.name, c.v), state.Set(s, c.name, c.v), with(vars(c.want...), s.Locs...))
	}
	wantState(t, "zero", state.Set(api.State{}, "x", list(num)), vars(bind("x", num)))
	wantState(t, "null", state.Set(api.State{}, "x", list(null)), vars(bind("x", null)))
}

// P8.2: Put, of objects that are there, and that are not; the others, and the variables, stay.
func TestPut(t *testing.T) {
	s := some()
	o := shape(sure("a", sum(7)), perhaps("b"))
	for _, c := range []struct {
		x    api.Atom
		at   int
		over bool
	}{
		{rec(0), 0, false}, {rec(1), 0, true}, {rec(2), 1, false}, {rec(3), 1, true}, {rec(4), 2, false}, {rec(math.MaxInt), 2, false},
		{sum(0), 2, false}, {sum(1), 2, true}, {sum(2), 3, false}, {sum(4), 3, true}, {sum(5), 4, false}, {sum(math.MaxInt), 4, false},
	} {
		behind := c.at
		if c.over {
			behind++
		}
		for _, o := range []api.Shape{o, {}, of(null, dyn)} {
			want := slices.Concat(s.Locs[:c.at], []api.Loc{loc(c.x, o)}, s.Locs[behind:])
			wantState(t, fmt.Sprintf("Put %v", c.x), state.Put(s, c.x, o), with(s, want...))
		}
	}
	wantState(t, "zero", state.Put(api.State{}, sum(2), o), locs(loc(sum(2), o)))
}

// P8.2: what may not be put: shapes that may not be, and atoms at which there is no object, also of a dead state.
func TestPutWhatMayNotBe(t *testing.T) {
	for _, s := range []api.State{{}, some(), dead} {
		for _, x := range wrongPlaces() {
			wantState(t, fmt.Sprintf("at %v", x), state.Put(s, x, of(null)), api.State{})
		}
		for _, o := range wrongShapes() {
			wantState(t, fmt.Sprintf("put %v", o), state.Put(s, rec(1), o), api.State{})
			wantState(t, fmt.Sprintf("put %v", o), state.Put(s, sum(0), o), api.State{})
		}
	}
}

// P8.2, P8.3, P8.4: dead states.
func TestDead(t *testing.T) {
	wantState(t, "Set", state.Set(dead, "x", list(num)), dead)
	wantState(t, "Set to nothing", state.Set(dead, "", nil), dead)
	wantState(t, "Put", state.Put(dead, rec(0), of(null)), dead)
	wantState(t, "Join", state.Join(dead, dead), dead)
	wantBool(t, "Within", state.Within(dead, dead), true)
	wantText(t, dead, "dead")
	for i, s := range right() {
		what := "right " + strconv.Itoa(i)
		wantState(t, what+" left", state.Join(s, dead), s)
		wantState(t, what+" right", state.Join(dead, s), s)
		wantBool(t, "dead within "+what, state.Within(dead, s), true)
		wantBool(t, what+" within dead", state.Within(s, dead), s.Dead)
	}
	for _, s := range []api.State{{Dead: true, Vars: some().Vars}, {Dead: true, Locs: some().Locs}} {
		wantText(t, s, "dead")
	}
}

// P8.3: Join, of each way in which a variable, or an object, is in the one, and in the other one.
func TestJoin(t *testing.T) {
	p, q := shape(sure("p", num)), shape(perhaps("p", null), sure("q", dyn))
	both := shape(perhaps("p", null, num), perhaps("q", dyn))
	for _, c := range []struct{ a, b, want api.State }{
		{api.State{}, api.State{}, api.State{}},
		{vars(bind("x", num)), vars(bind("x", num)), vars(bind("x", num))},
		{vars(bind("x", num)), vars(bind("x", boolean, dyn)), vars(bind("x", boolean, num, dyn))},
		{vars(bind("x", num)), vars(bind("y", boolean)), vars(bind("x", null, num), bind("y", null, boolean))},
		{vars(bind("x")), vars(), vars(bind("x", null))},
		{vars(bind("x")), vars(bind("x")), vars(bind("x"))},
		{vars(bind("x")), vars(bind("x", num)), vars(bind("x", num))},
		{vars(bind("x", null)), vars(), vars(bind("x", null))},
		{vars(bind("a", num), bind("c", num)), vars(bind("b", dyn), bind("c", dyn), bind("d", dyn)), vars(bind("a", null, num), bind("b", null, dyn), bind("c", num, dyn), bind("d", null, dyn))},
		{vars(bind("", num)), vars(bind("\xff", fun(1))), vars(bind("", null, num), bind("\xff", null, fun(1)))},
		{locs(loc(rec(0), p)), locs(), locs(loc(rec(0), p))},
		{locs(loc(rec(0), q)), locs(loc(rec(1), p)), locs(loc(rec(0), q), loc(rec(1), p))},
		{locs(loc(sum(0), q)), locs(loc(rec(1), p)), locs(loc(rec(1), p), loc(sum(0), q))},
		{locs(loc(rec(0), p)), locs(loc(sum(0), q)), locs(loc(rec(0), p), loc(sum(0), q))},
		{locs(loc(rec(0), p)), locs(loc(rec(0), q)), locs(loc(rec(0), both))},
		{locs(loc(sum(3), q)), locs(loc(rec(3), q), loc(sum(3), p)), locs(loc(rec(3), q), loc(sum(3), both))},
		{locs(loc(rec(0), of(null))), locs(loc(rec(0), of(rec(1), dyn))), locs(loc(rec(0), of(null, rec(1), dyn)))},
		{with(vars(bind("x", rec(0))), loc(rec(0), p)), vars(bind("x", num)), with(vars(bind("x", num, rec(0))), loc(rec(0), p))},
		{vars(bind("x", num)), locs(loc(rec(9), p), loc(rec(10), q)), with(vars(bind("x", null, num)), loc(rec(9), p), loc(rec(10), q))},
	} {
		wantState(t, "Join", state.Join(c.a, c.b), c.want)
		wantState(t, "Join, the other way", state.Join(c.b, c.a), c.want)
		wantBool(t, "Within", state.Within(c.a, c.want) && state.Within(c.b, c.want), true)
	}
}

// P8.3: Within, of each way in which one state may tell more than another one.
func TestWithin(t *testing.T) {
	p, q := shape(sure("p", num)), shape(perhaps("p", null, num))
	for _, c := range []struct {
		a, b   api.State
		ab, ba bool
	}{
		{api.State{}, api.State{}, true, true},
		{some(), some(), true, true},
		{vars(bind("x", num)), vars(bind("x", null, num)), true, false},
		{vars(bind("x", num)), vars(bind("x", boolean)), false, false},
		{vars(bind("x")), vars(bind("x", num)), true, false},
		{vars(bind("x", null)), vars(), true, true},
		{vars(bind("x", num)), vars(), false, false},
		{vars(bind("x", null, num)), vars(), false, true},
		{vars(bind("x")), vars(), true, false},
		{vars(bind("x", null)), vars(bind("y", null)), true, true},
		{vars(bind("x", null), bind("y", num)), vars(bind("y", num), bind("z", null, dyn)), true, false},
		{vars(bind("x", num), bind("y", num)), vars(bind("x", num), bind("y", boolean)), false, false},
		{vars(bind("x", boolean), bind("y", num)), vars(bind("x", num), bind("y", num)), false, false},
		{locs(), locs(loc(rec(0), p)), true, false},
		{locs(loc(rec(0), p)), locs(loc(rec(0), q)), true, false},
		{locs(loc(rec(0), p)), locs(loc(rec(1), p)), false, false},
		{locs(loc(rec(0), p)), locs(loc(sum(0), p)), false, false},
		{locs(loc(sum(0), p)), locs(loc(rec(0), p), loc(sum(0), p)), true, false},
		{locs(loc(rec(0), p), loc(sum(0), q)), locs(loc(rec(0), q), loc(sum(0), p)), false, false},
		{locs(loc(rec(0), p), loc(rec(2), p)), locs(loc(rec(0), p), loc(rec(1), p), loc(rec(2), q), loc(sum(2), p)), true, false},
		{locs(loc(rec(0), of(null))), locs(loc(rec(0), of(null, dyn))), true, false},
		{with(vars(bind("x", rec(0))), loc(rec(0), p)), with(vars(bind("x", rec(0))), loc(rec(0), q)), true, false},
		{with(vars(bind("x", num)), loc(rec(0), p)), with(vars(bind("x", null)), loc(rec(0), p)), false, false},
		{vars(bind("x", rec(0))), with(vars(bind("x", rec(0), sum(0))), loc(sum(0), p)), true, false},
	} {
		wantBool(t, cut(c.a)+" within "+cut(c.b), state.Within(c.a, c.b), c.ab)
		wantBool(t, cut(c.b)+" within "+cut(c.a), state.Within(c.b, c.a), c.ba)
	}
}

// P8.2, P8.3: of states that may not be there is the zero State, and nothing within another.
func TestWhatMayNotBe(t *testing.T) {
	for i, s := range wrong() {
		what := "wrong " + strconv.Itoa(i)
		wantState(t, what+" with itself", state.Join(s, s), api.State{})
		wantBool(t, what+" within itself", state.Within(s, s), false)
		for _, name := range []string{"", "p", "q", "x", "y", "z"} {
			wantState(t, what+" Set", state.Set(s, name, list(num)), api.State{})
		}
		for _, x := range list(rec(0), rec(1), sum(0), sum(9)) {
			wantState(t, what+" Put", state.Put(s, x, of(null)), api.State{})
		}
		for _, r := range right() {
			wantState(t, what+" left", state.Join(s, r), api.State{})
			wantState(t, what+" right", state.Join(r, s), api.State{})
			wantBool(t, what+" within", state.Within(s, r), false)
			wantBool(t, "within "+what, state.Within(r, s), false)
		}
	}
}

// P8.4: Text, of variables, of newest and older objects, of properties that are sure, and perhaps there.
func TestText(t *testing.T) {
	wantText(t, api.State{})
	wantText(t, some(), "b: num", "d: null rec1", "f: ", "rec1: p!(num) q?(rec1 sum1) proto (null)", "rec3: proto ()", "sum1: p?(any) proto (null)", "sum4: proto (sum1)")
	wantText(t, vars(bind("x", null)), "x: null")
	wantText(t, vars(bind("", fun(10), sum(2))), ": fun10 sum2")
	wantText(t, locs(loc(sum(0), shape(sure("a"), perhaps("b"), sure("c", null, boolean)))), "sum0: a!() b?() c!(null bool) proto (null)")
	wantText(t, locs(loc(rec(12), of(null, rec(12), dyn))), "rec12: proto (null rec12 any)")
}

// P8.4: Text, of states that may not be: as they stand.
func TestTextOfWhatMayNotBe(t *testing.T) {
	wantText(t, vars(bind("y", num, null, num), bind("x"), bind("x", rec(-1))), "y: num null num", "x: ", "x: rec-1")
	wantText(t, locs(loc(num, of()), loc(api.Atom{Kind: 9}, of(api.Atom{Kind: -1})), loc(sum(-3), api.Shape{Fields: []api.Field{sure("q"), perhaps("p", num, num), perhaps("p")}})),
		"num: proto ()", "?: proto (?)", "sum-3: q!() p?(num num) p?() proto ()")
	wantText(t, vars(bind("a\nb: num", null)), "a", "b: num: null")
}

// shapesOf are all shapes that a state has.
func shapesOf(s api.State) []*api.Shape {
	var l []*api.Shape
	for i := range s.Locs {
		l = append(l, &s.Locs[i].Shape)
	}
	return l
}

// answers are all states that the calls answer of s; those of Var, and of Loc, are laid into states.
func answers(s api.State) []api.State {
	v, o := list(num, dyn), shape(sure("p", num), perhaps("q", rec(1)))
	newest, _ := state.Loc(s, rec(1))
	older, _ := state.Loc(s, sum(1))
	return []api.State{
		state.Join(s, s), state.Join(s, api.State{}), state.Join(api.State{}, s), state.Join(s, dead), state.Join(dead, s),
		state.Join(s, vars(bind("b", num), bind("c", num))), state.Join(s, locs(loc(rec(1), o), loc(rec(2), o))),
		state.Set(s, "b", v), state.Set(s, "a", v), state.Set(s, "z", nil), state.Put(s, rec(1), o), state.Put(s, rec(0), o), state.Put(s, sum(9), of()),
		vars(api.Bind{Name: "b", Vals: state.Var(s, "b")}, api.Bind{Name: "c", Vals: state.Var(s, "c")}), locs(loc(rec(1), newest), loc(sum(1), older)),
	}
}

// atomsOf are all lists of atoms that a state has.
func atomsOf(s api.State) []*[]api.Atom {
	var l []*[]api.Atom
	for i := range s.Vars {
		l = append(l, &s.Vars[i].Vals)
	}
	for _, o := range shapesOf(s) {
		l = append(l, &o.Proto)
		for j := range o.Fields {
			l = append(l, &o.Fields[j].Vals)
		}
	}
	return l
}

// roomy is s in memory of its own, that has more behind each list.
func roomy(s api.State) api.State {
	s.Vars, s.Locs = slices.Grow(slices.Clone(s.Vars), 3), slices.Grow(slices.Clone(s.Locs), 3)
	for _, o := range shapesOf(s) {
		o.Fields = slices.Grow(slices.Clone(o.Fields), 3)
	}
	for _, l := range atomsOf(s) {
		*l = slices.Grow(slices.Clone(*l), 3)
	}
	return s
}

// stretched is s, in memory of its own, with what stands behind each list.
func stretched(s api.State) api.State {
	s.Vars, s.Locs = slices.Clone(s.Vars[:len(s.Vars)+1]), slices.Clone(s.Locs[:len(s.Locs)+1])
	for _, o := range shapesOf(s)[:len(s.Locs)-1] {
		o.Fields = slices.Clone(o.Fields[:len(o.Fields)+1])
	}
	for _, l := range atomsOf(s) {
		if cap(*l) > len(*l) {
			*l = slices.Clone((*l)[:len(*l)+1])
		}
	}
	return s
}

// spoil writes into all of a state's memory, and behind it.
func spoil(s api.State) {
	wrongAtom := api.Atom{Kind: 77, N: 77}
	for _, l := range atomsOf(s) {
		for i := range *l {
			(*l)[i] = wrongAtom
		}
		_ = append(*l, wrongAtom)
	}
	for _, o := range shapesOf(s) {
		for i := range o.Fields {
			o.Fields[i] = sure("spoilt", wrongAtom)
		}
		_ = append(o.Fields, sure("spoilt"))
	}
	for i := range s.Vars {
		s.Vars[i] = bind("spoilt", wrongAtom)
	}
	for i := range s.Locs {
		s.Locs[i] = loc(wrongAtom, of(wrongAtom))
	}
	_, _ = append(s.Vars, bind("spoilt")), append(s.Locs, loc(wrongAtom, of()))
}

// R4: arguments stay as they were, also behind their ends, and an answer's memory is its own.
func TestNothingShared(t *testing.T) {
	s := roomy(some())
	behind := stretched(s)
	first := answers(s)
	second := answers(s)
	state.May(s)
	state.Within(s, s)
	state.Text(s)
	wantState(t, "the argument", s, some())
	wantState(t, "behind the argument", stretched(s), behind)
	for i, answer := range first {
		spoil(answer)
		wantState(t, "the argument, answer "+strconv.Itoa(i)+" spoilt", s, some())
		for j := range second[i+1:] {
			wantState(t, "another answer", first[i+1+j], second[i+1+j])
		}
	}
	kept := make([]api.State, len(second))
	for i, again := range answers(s) {
		wantState(t, "again", again, second[i])
		kept[i] = roomy(again)
	}
	spoil(s)
	for i, answer := range second {
		wantState(t, "answer "+strconv.Itoa(i)+", the argument spoilt", answer, kept[i])
	}
}

// R4: no two lists of an answer share memory, also where those of the argument do.
func TestNothingSharedInOneAnswer(t *testing.T) {
	shared := list(num)
	fields := []api.Field{sure("p", shared...), perhaps("q", shared...)}
	o := api.Shape{Fields: fields, Proto: shared}
	s := with(vars(bind("b", shared...), bind("d", shared...)), loc(rec(1), o), loc(rec(2), o), loc(sum(1), o))
	for i := range answers(s) {
		for at := range atomsOf(answers(s)[i]) {
			got, want := answers(s)[i], answers(s)[i]
			l := atomsOf(got)[at]
			for k := range *l {
				(*l)[k] = rec(5)
			}
			_ = append(*l, rec(6))
			*l = *atomsOf(want)[at]
			wantState(t, "answer "+strconv.Itoa(i), got, want)
		}
		for at := range shapesOf(answers(s)[i]) {
			got, want := answers(s)[i], answers(s)[i]
			o := shapesOf(got)[at]
			for k := range o.Fields {
				o.Fields[k] = sure("spoilt")
			}
			*o = *shapesOf(want)[at]
			wantState(t, "answer "+strconv.Itoa(i), got, want)
		}
	}
}

// R4: what is set, and what is put, shares no memory with the state.
func TestNothingSharedWithWhatIsWritten(t *testing.T) {
	v := list(num, dyn, null)[:2]
	spoil(state.Set(some(), "b", v))
	wantBool(t, "v", slices.Equal(v[:3], list(num, dyn, null)), true)
	o := shape(sure("p", num, rec(2)), perhaps("q"))
	spoil(state.Put(some(), rec(1), o))
	wantBool(t, "o", sameShape(o, shape(sure("p", num, rec(2)), perhaps("q"))), true)
}

// R5: empty lists and nil ones are the same.
func TestEmptyAndNilAreTheSame(t *testing.T) {
	none := []api.State{{}, {Vars: []api.Bind{}}, {Locs: []api.Loc{}}, {Vars: []api.Bind{bind("p")}[:0], Locs: []api.Loc{loc(rec(0), of())}[:0]}}
	empty := with(vars(bind("x")), loc(rec(0), of()))
	alike := []api.State{empty, with(vars(api.Bind{Name: "x", Vals: list()}), loc(rec(0), api.Shape{Fields: []api.Field{}, Proto: list()}))}
	for _, l := range [][]api.State{none, alike} {
		for _, a := range l {
			wantBool(t, "May", state.May(a), true)
			wantState(t, "Set", state.Set(a, "x", nil), state.Set(l[0], "x", list()))
			wantState(t, "Put", state.Put(a, rec(0), of()), state.Put(l[0], rec(0), api.Shape{Fields: []api.Field{}, Proto: list()}))
			for _, b := range l {
				wantState(t, "Join", state.Join(a, b), l[0])
				wantBool(t, "Within", state.Within(a, b), true)
			}
		}
	}
	for _, a := range none {
		a.Dead = true
		wantBool(t, "May, dead", state.May(a), true)
		wantState(t, "Join, dead", state.Join(a, empty), empty)
		wantState(t, "Set, dead", state.Set(a, "x", nil), dead)
	}
}

// R1: very many variables and objects, in time.
func TestLong(t *testing.T) {
	const many = 1 << 16
	var even, odd, falling api.State
	for i := range many {
		even.Vars = append(even.Vars, bind(strconv.Itoa(2*many+2*i), num))
		odd.Vars = append(odd.Vars, bind(strconv.Itoa(2*many+2*i+1), rec(0)))
		even.Locs = append(even.Locs, loc(rec(i), shape(sure("p", num))))
		odd.Locs = append(odd.Locs, loc(sum(i), of(dyn)))
		falling.Locs = append(falling.Locs, loc(rec(many-i), of()))
	}
	wantBool(t, "May", state.May(even) && state.May(odd), true)
	wantBool(t, "May, falling", state.May(falling), false)
	both := state.Join(even, odd)
	wantBool(t, "Join", state.May(both) && len(both.Vars) == 2*many && len(both.Locs) == 2*many, true)
	wantBool(t, "Within", state.Within(both, both) && !state.Within(even, odd) && !state.Within(both, even), true)
	wantState(t, "Join, again", state.Join(both, odd), both)
	wantState(t, "Join, falling", state.Join(even, falling), api.State{})
	last := strconv.Itoa(4*many - 2)
	wantVar(t, "Var", even, last, num)
	wantVar(t, "Set", state.Set(even, last, list(dyn)), last, dyn)
	wantVar(t, "Set", state.Set(even, "3", list(dyn)), "3", dyn)
	wantLoc(t, "Loc", falling, rec(1), of(), true)
	wantLoc(t, "Put", state.Put(even, rec(many), of()), rec(many), of(), true)
	wantBool(t, "Text", strings.Count(state.Text(both), "\n") == 4*many, true)
}
