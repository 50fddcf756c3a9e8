package lookup_test

import (
	"fmt"
	"math"
	"protean/api"
	"protean/lookup"
	"protean/state"
	"slices"
	"strconv"
	"testing"
)

// Some atoms that may be.
var (
	null    = api.Atom{Kind: api.AtNull}
	boolean = api.Atom{Kind: api.AtBool}
	num     = api.Atom{Kind: api.AtNum}
	dyn     = api.Atom{Kind: api.AtDyn}
)

func fun(n int) api.Atom { return api.Atom{Kind: api.AtFun, N: n} }

func rec(n int) api.Atom { return api.Atom{Kind: api.AtRec, N: n} }

func sum(n int) api.Atom { return api.Atom{Kind: api.AtSum, N: n} }

func list(l ...api.Atom) []api.Atom { return l }

func sure(name string, v ...api.Atom) api.Field { return api.Field{Name: name, Sure: true, Vals: v} }

func perhaps(name string, v ...api.Atom) api.Field { return api.Field{Name: name, Vals: v} }

// shape is one of this prototype, and of these properties.
func shape(proto []api.Atom, fields ...api.Field) api.Shape {
	return api.Shape{Fields: fields, Proto: proto}
}

func loc(x api.Atom, o api.Shape) api.Loc { return api.Loc{Atom: x, Shape: o} }

// locs is a state of these objects.
func locs(l ...api.Loc) api.State { return api.State{Locs: l} }

// found is what is asked of objects alone, one of which has the property.
func found(v ...api.Atom) api.Found { return api.Found{Vals: v, Sure: true, Some: true} }

// unsure is what is asked of others, too.
func unsure(f api.Found) api.Found {
	f.Sure = false
	return f
}

// open is what is asked of anything.
func open(f api.Found) api.Found {
	f.Dyn, f.Sure = true, false
	return f
}

// nowhere is what no object has, where just objects are asked.
func nowhere() api.Found { return api.Found{Sure: true} }

// none are atoms that may not be.
func none() []api.Atom {
	return list(api.Atom{Kind: -1}, api.Atom{Kind: api.AtKinds}, api.Atom{Kind: api.AtNum, N: 1}, api.Atom{Kind: api.AtDyn, N: -1}, api.Atom{Kind: api.AtNull, N: math.MaxInt},
		rec(-1), sum(-1), rec(math.MinInt), sum(math.MinInt), fun(-1), api.Atom{Kind: math.MaxInt, N: math.MaxInt}, api.Atom{Kind: math.MinInt})
}

// cut is what is told of a value, which may be long.
func cut(x any) string {
	return fmt.Sprintf("%.300s", fmt.Sprint(x))
}

// same holds together what was found; an empty list and a nil one are the same.
func same(a, b api.Found) bool {
	return a.Dyn == b.Dyn && a.Sure == b.Sure && a.Some == b.Some && slices.Equal(a.Vals, b.Vals)
}

func wantFind(t *testing.T, what string, got, want api.Found) {
	t.Helper()
	if !same(got, want) {
		t.Errorf("%s: Find %s; want %s", what, cut(got), cut(want))
	}
}

func wantReach(t *testing.T, what string, got []api.Atom, want ...api.Atom) {
	t.Helper()
	if !slices.Equal(got, want) {
		t.Errorf("%s: Reach %s; want %s", what, cut(got), cut(want))
	}
}

// wantBoth asks for the property p.
func wantBoth(t *testing.T, what string, s api.State, v []api.Atom, f api.Found, reached ...api.Atom) {
	t.Helper()
	wantFind(t, what, lookup.Find(s, v, "p"), f)
	wantReach(t, what, lookup.Reach(s, v, "p"), reached...)
}

// P10.1: the chapter's examples.
func TestExamples(t *testing.T) {
	s := locs(loc(rec(0), shape(list(sum(1)))), loc(sum(1), shape(list(null), sure("p", num))))
	s.Vars = []api.Bind{{Name: "x", Vals: list(rec(0))}}
	wantBoth(t, "sure", s, state.Var(s, "x"), found(num), rec(0), sum(1))
	s.Locs[1].Shape.Fields[0].Sure = false
	wantBoth(t, "perhaps", s, state.Var(s, "x"), unsure(found(num)), null, rec(0), sum(1))
}

// P10.1: one object, which has the property surely, perhaps, not, and of which nothing is told.
func TestOneObject(t *testing.T) {
	for _, x := range list(rec(0), sum(0), rec(7), sum(7), rec(math.MaxInt), sum(math.MaxInt)) {
		what := cut(x)
		wantBoth(t, what+" sure", locs(loc(x, shape(list(null), sure("p", num)))), list(x), found(num), x)
		wantBoth(t, what+" sure, of no values", locs(loc(x, shape(list(null), sure("p")))), list(x), found(), x)
		wantBoth(t, what+" sure, among others", locs(loc(x, shape(list(null), sure("o", null), sure("p", num, fun(3)), sure("q", dyn)))), list(x), found(num, fun(3)), x)
		wantBoth(t, what+" perhaps", locs(loc(x, shape(list(null), perhaps("p", num)))), list(x), unsure(found(num)), null, x)
		wantBoth(t, what+" perhaps, of no values", locs(loc(x, shape(list(null), perhaps("p")))), list(x), unsure(found()), null, x)
		wantBoth(t, what+" perhaps, of no prototype", locs(loc(x, shape(nil, perhaps("p", num)))), list(x), found(num), x)
		wantBoth(t, what+" not", locs(loc(x, shape(list(null), sure("o", num), sure("q", num)))), list(x), unsure(nowhere()), null, x)
		wantBoth(t, what+" not, of no prototype", locs(loc(x, shape(nil, sure("q", num)))), list(x), nowhere(), x)
		wantBoth(t, what+" not told of", locs(), list(x), nowhere(), x)
		wantBoth(t, what+" not told of, others are", locs(loc(rec(1), shape(list(null), sure("p", num))), loc(rec(8), shape(list(null), sure("p", num)))), list(x), nowhere(), x)
	}
}

// P10.1: the newest object of a site is none of its older ones, nor of another site's.
func TestWhichObject(t *testing.T) {
	s := locs(loc(rec(0), shape(nil, sure("p", num))), loc(rec(1), shape(nil, sure("p", null))), loc(sum(0), shape(nil, sure("p", boolean))), loc(sum(2), shape(nil, sure("p", fun(0)))))
	wantBoth(t, "rec0", s, list(rec(0)), found(num), rec(0))
	wantBoth(t, "rec1", s, list(rec(1)), found(null), rec(1))
	wantBoth(t, "rec2", s, list(rec(2)), nowhere(), rec(2))
	wantBoth(t, "sum0", s, list(sum(0)), found(boolean), sum(0))
	wantBoth(t, "sum1", s, list(sum(1)), nowhere(), sum(1))
	wantBoth(t, "sum2", s, list(sum(2)), found(fun(0)), sum(2))
	wantBoth(t, "all", s, list(rec(0), rec(1), rec(2), sum(0), sum(1), sum(2)), found(null, boolean, num, fun(0)), rec(0), rec(1), rec(2), sum(0), sum(1), sum(2))
}

// P10.1: which property is asked for; the empty name is one as others are.
func TestWhichProperty(t *testing.T) {
	s := locs(loc(rec(0), shape(list(rec(1)), sure("", num), perhaps("p", null), sure("p\x00", boolean), sure("q", rec(0)))), loc(rec(1), shape(nil, sure("", dyn), sure("p", num), sure("r", fun(1)))))
	for _, c := range []struct {
		name string
		want api.Found
	}{
		{"", found(num)}, {"p", found(null, num)}, {"p\x00", found(boolean)}, {"q", found(rec(0))}, {"r", found(fun(1))}, {"P", nowhere()}, {"o", nowhere()}, {"\xff", nowhere()}, {"pq", nowhere()},
	} {
		wantFind(t, strconv.Quote(c.name), lookup.Find(s, list(rec(0)), c.name), c.want)
	}
}

// P10.1: what is no object has no property; it is reached, and what is found is not sure.
func TestNoObjects(t *testing.T) {
	s := locs(loc(rec(0), shape(list(null), sure("p", num))), loc(sum(0), shape(list(boolean, fun(2)), sure("q", null))))
	for _, x := range list(null, boolean, num, fun(0), fun(7), fun(math.MaxInt)) {
		what := cut(x)
		wantBoth(t, what, s, list(x), unsure(nowhere()), x)
		wantBoth(t, what+", nothing is told", locs(), list(x), unsure(nowhere()), x)
		wantBoth(t, what+" and rec0", s, list(x, rec(0)), unsure(found(num)), x, rec(0))
		wantBoth(t, what+" as the prototype", locs(loc(rec(0), shape(list(x)))), list(rec(0)), unsure(nowhere()), x, rec(0))
	}
	wantBoth(t, "of sum0", s, list(sum(0)), unsure(nowhere()), boolean, fun(2), sum(0))
	wantBoth(t, "all", s, list(null, boolean, num), unsure(nowhere()), null, boolean, num)
}

// P10.1: Dyn is told where anything may be asked, not where anything may come.
func TestDyn(t *testing.T) {
	s := locs(loc(rec(0), shape(list(null), sure("p", dyn))), loc(rec(1), shape(list(dyn), sure("p", num))), loc(rec(2), shape(list(null, dyn), perhaps("p", num))), loc(rec(3), shape(list(rec(2)))))
	wantBoth(t, "any", s, list(dyn), open(nowhere()), dyn)
	wantBoth(t, "any, nothing is told", locs(), list(dyn), open(nowhere()), dyn)
	wantBoth(t, "any comes", s, list(rec(0)), found(dyn), rec(0))
	wantBoth(t, "any behind what is sure", s, list(rec(1)), found(num), rec(1))
	wantBoth(t, "any behind what is perhaps", s, list(rec(2)), open(found(num)), null, rec(2), dyn)
	wantBoth(t, "any behind two", s, list(rec(3)), open(found(num)), null, rec(2), rec(3), dyn)
	wantBoth(t, "any and an object", s, list(rec(0), dyn), open(found(dyn)), rec(0), dyn)
	wantBoth(t, "any and one that is not told of", s, list(sum(9), dyn), open(nowhere()), sum(9), dyn)
}

// P10.1: chains of prototypes, in which the property is not, perhaps, or surely there.
func TestChains(t *testing.T) {
	no, may, must := []api.Field(nil), []api.Field{perhaps("p", num)}, []api.Field{sure("p", boolean)}
	for i, c := range []struct {
		first, second, third []api.Field
		want                 api.Found
		reached              []api.Atom
	}{
		{no, no, no, unsure(nowhere()), list(null, rec(1), sum(0), sum(2))},
		{no, no, may, unsure(found(num)), list(null, rec(1), sum(0), sum(2))},
		{no, no, must, found(boolean), list(rec(1), sum(0), sum(2))},
		{no, may, no, unsure(found(num)), list(null, rec(1), sum(0), sum(2))},
		{no, may, must, found(boolean, num), list(rec(1), sum(0), sum(2))},
		{no, must, may, found(boolean), list(rec(1), sum(2))},
		{may, no, must, found(boolean, num), list(rec(1), sum(0), sum(2))},
		{may, may, no, unsure(found(num)), list(null, rec(1), sum(0), sum(2))},
		{may, must, no, found(boolean, num), list(rec(1), sum(2))},
		{must, may, no, found(boolean), list(rec(1))},
		{must, must, must, found(boolean), list(rec(1))},
	} {
		s := locs(loc(rec(1), shape(list(sum(2)), c.first...)), loc(sum(0), shape(list(null), c.third...)), loc(sum(2), shape(list(sum(0)), c.second...)))
		wantBoth(t, "chain "+strconv.Itoa(i), s, list(rec(1)), c.want, c.reached...)
	}
}

// P10.1: a chain whose last prototype is not told of is sure.
func TestChainToWhatIsNotToldOf(t *testing.T) {
	s := locs(loc(rec(0), shape(list(rec(5)), perhaps("p", num))), loc(rec(1), shape(list(rec(0), sum(0)))))
	wantBoth(t, "one", s, list(rec(0)), found(num), rec(0), rec(5))
	wantBoth(t, "two", s, list(rec(1)), found(num), rec(0), rec(1), rec(5), sum(0))
}

// P10.1: prototypes that come back to an object that was reached.
func TestRounds(t *testing.T) {
	own := locs(loc(sum(0), shape(list(sum(0)))))
	wantBoth(t, "its own", own, list(sum(0)), nowhere(), sum(0))
	own.Locs[0].Shape.Proto = list(null, sum(0))
	wantBoth(t, "its own, or null", own, list(sum(0)), unsure(nowhere()), null, sum(0))
	own.Locs[0].Shape.Fields = []api.Field{perhaps("p", num)}
	wantBoth(t, "its own, or null, perhaps", own, list(sum(0)), unsure(found(num)), null, sum(0))
	s := locs(loc(rec(0), shape(list(rec(1)))), loc(rec(1), shape(list(sum(0)), perhaps("p", num))), loc(sum(0), shape(list(rec(0)), perhaps("p", null))))
	for _, x := range list(rec(0), rec(1), sum(0)) {
		wantBoth(t, "round from "+cut(x), s, list(x), found(null, num), rec(0), rec(1), sum(0))
	}
	s.Locs[2].Shape.Proto = list(fun(1), rec(0), sum(7))
	wantBoth(t, "a round with ways out", s, list(rec(1)), unsure(found(null, num)), fun(1), rec(0), rec(1), sum(0), sum(7))
	s.Locs[1].Shape.Fields[0].Sure = true
	wantBoth(t, "a round that ends", s, list(rec(1)), found(num), rec(1))
	wantBoth(t, "a round that ends behind others", s, list(sum(0)), unsure(found(null, num)), fun(1), rec(0), rec(1), sum(0), sum(7))
}

// P10.1: several prototypes; each is asked, and one that is come to by several ways is asked once.
func TestSeveralPrototypes(t *testing.T) {
	s := locs(loc(rec(0), shape(list(rec(1), rec(2), sum(4)))), loc(rec(1), shape(list(rec(3)), perhaps("p", num))), loc(rec(2), shape(list(rec(3)), perhaps("p", boolean, num))),
		loc(rec(3), shape(list(null), sure("p", fun(0)))), loc(sum(4), shape(list(dyn), sure("p", dyn))))
	wantBoth(t, "both meet", s, list(rec(0)), found(boolean, num, fun(0), dyn), rec(0), rec(1), rec(2), rec(3), sum(4))
	wantBoth(t, "one", s, list(rec(1)), found(num, fun(0)), rec(1), rec(3))
	wantBoth(t, "two asked", s, list(rec(1), rec(2)), found(boolean, num, fun(0)), rec(1), rec(2), rec(3))
	wantBoth(t, "one of them behind the other", s, list(rec(1), rec(3)), found(num, fun(0)), rec(1), rec(3))
	s.Locs[3].Shape.Fields[0].Sure = false
	wantBoth(t, "the end is open", s, list(rec(0)), unsure(found(boolean, num, fun(0), dyn)), null, rec(0), rec(1), rec(2), rec(3), sum(4))
}

// P10.1: what is surely there ahead of a prototype hides it, but not from another way to it.
func TestHidden(t *testing.T) {
	s := locs(loc(rec(0), shape(list(null, rec(2), dyn), sure("p", num))), loc(rec(1), shape(list(rec(2)), perhaps("p", boolean))), loc(rec(2), shape(list(fun(3)), perhaps("p", null))))
	wantBoth(t, "hidden", s, list(rec(0)), found(num), rec(0))
	wantBoth(t, "seen by the other", s, list(rec(0), rec(1)), unsure(found(null, boolean, num)), fun(3), rec(0), rec(1), rec(2))
	wantBoth(t, "asked itself", s, list(rec(0), rec(2)), unsure(found(null, num)), fun(3), rec(0), rec(2))
	wantReach(t, "hidden by another property", lookup.Reach(s, list(rec(0)), "q"), null, fun(3), rec(0), rec(2), dyn)
}

// P10.1: of no atoms nothing is reached, and nothing is unsure.
func TestNoAtoms(t *testing.T) {
	s := locs(loc(rec(0), shape(list(null, dyn), sure("p", num))))
	for _, v := range [][]api.Atom{nil, {}, none()} {
		wantBoth(t, cut(v), s, v, nowhere())
		wantBoth(t, cut(v)+", nothing is told", api.State{}, v, nowhere())
		wantBoth(t, cut(v)+", dead", api.State{Dead: true}, v, nowhere())
	}
}

// P10.1: lists that are not rising, and that have atoms twice, or that may not be.
func TestListsThatMayNotBe(t *testing.T) {
	s := locs(loc(rec(0), shape(list(null), sure("p", num))), loc(rec(1), shape(list(boolean), perhaps("p", null))), loc(sum(0), shape(nil, sure("p", fun(1)))))
	wantBoth(t, "falling", s, list(sum(0), rec(1), rec(0)), unsure(found(null, num, fun(1))), boolean, rec(0), rec(1), sum(0))
	wantBoth(t, "twice", s, list(rec(0), rec(0), sum(0), rec(0)), found(num, fun(1)), rec(0), sum(0))
	wantBoth(t, "falling, no objects", s, list(dyn, num, null, dyn), open(nowhere()), null, num, dyn)
	for _, x := range none() {
		what := cut(x)
		wantBoth(t, what+" alone", s, list(x), nowhere())
		wantBoth(t, what+" ahead", s, list(x, rec(0)), found(num), rec(0))
		wantBoth(t, what+" behind", s, list(rec(0), x), found(num), rec(0))
		of := locs(loc(rec(0), shape(list(rec(1), x, rec(1)))), loc(rec(1), shape(list(x, rec(0), x), perhaps("p", num))))
		wantBoth(t, what+" as the prototype", of, list(rec(0)), found(num), rec(0), rec(1))
		of.Locs[0].Shape.Proto = list(x)
		wantBoth(t, what+" as the prototype alone", of, list(rec(0)), nowhere(), rec(0))
		of.Locs[0].Shape.Fields = []api.Field{sure("p", rec(1), x, null, rec(1))}
		wantBoth(t, what+" as what the property is", of, list(rec(0)), found(null, rec(1)), rec(0))
	}
}

// P10.1: prototypes in any order.
func TestPrototypesInAnyOrder(t *testing.T) {
	s := locs(loc(rec(0), shape(list(dyn, sum(0), null, rec(1), sum(0), null))), loc(rec(1), shape(list(num, boolean, num))), loc(sum(0), shape(list(sum(0), rec(1), fun(0)))))
	wantBoth(t, "all", s, list(rec(0)), open(nowhere()), null, boolean, num, fun(0), rec(0), rec(1), sum(0), dyn)
	wantBoth(t, "of sum0", s, list(sum(0)), unsure(nowhere()), boolean, num, fun(0), rec(1), sum(0))
}

// P10.1: states that may not be: of two objects of one atom the first one counts, wherever it stands, and of two properties of one name.
func TestStatesThatMayNotBe(t *testing.T) {
	first, second := loc(rec(1), shape(list(rec(2)), perhaps("p", num))), loc(rec(1), shape(list(dyn), sure("p", null)))
	other, last := loc(rec(0), shape(list(rec(1)))), loc(rec(2), shape(nil, sure("p", boolean)))
	for i, l := range [][]api.Loc{
		{first, second, other, last}, {first, other, last, second}, {last, first, other, second}, {other, last, first, second}, {last, other, first, last, other, second, first},
		{first, second, second, last, second, other}, {other, first, second, last},
	} {
		wantBoth(t, "first "+strconv.Itoa(i), locs(l...), list(rec(0)), found(boolean, num), rec(0), rec(1), rec(2))
	}
	for i, l := range [][]api.Loc{{second, first, other, last}, {other, second, first}, {last, second, other, first}, {second, other, first, first, first}} {
		wantBoth(t, "second "+strconv.Itoa(i), locs(l...), list(rec(0)), found(null), rec(0), rec(1))
	}
	wantBoth(t, "properties falling", locs(loc(rec(0), shape(list(null), sure("q", num), sure("p", boolean), sure("o", null)))), list(rec(0)), found(boolean), rec(0))
	wantBoth(t, "perhaps first", locs(loc(rec(0), shape(list(null), perhaps("p", num), sure("p", boolean)))), list(rec(0)), unsure(found(num)), null, rec(0))
	wantBoth(t, "sure first", locs(loc(rec(0), shape(list(null), sure("p", num), perhaps("p", boolean)))), list(rec(0)), found(num), rec(0))
	s := locs(other, first, last)
	s.Vars = []api.Bind{{Name: "x", Vals: none()}, {Name: "", Vals: list(num, null)}}
	wantBoth(t, "by its variables", s, list(rec(0)), found(boolean, num), rec(0), rec(1), rec(2))
}

// P10.1: of very many objects of each atom, in no order, the first one counts.
func TestFirstOfMany(t *testing.T) {
	const many, places = 1000, 20
	var s api.State
	for i := range many {
		s.Locs = append(s.Locs, loc(rec(i*7%places), shape(nil, sure("p", fun(i)))))
	}
	for i := range places {
		wantBoth(t, "first of many "+strconv.Itoa(i), s, list(rec(i*7%places)), found(fun(i)), rec(i*7%places))
	}
}

// P10.1: objects of atoms that may not be, or are no objects, in states that may not be.
func TestObjectsOfOtherAtoms(t *testing.T) {
	var l []api.Loc
	for _, x := range none() {
		l = append(l, loc(x, shape(list(dyn), sure("p", num))))
	}
	s := locs(append(l, loc(rec(0), shape(none())))...)
	wantBoth(t, "that may not be", s, none(), nowhere())
	wantBoth(t, "that may not be, as prototypes", s, list(rec(0)), nowhere(), rec(0))
	// Their prototypes are not followed; what is told of them has the property, as the chapter says of an atom, not of an object.
	for _, x := range list(null, boolean, num, fun(0), fun(3)) {
		s = locs(loc(x, shape(list(rec(0), dyn), perhaps("p", boolean))), loc(rec(0), shape(list(x), perhaps("p", num))))
		wantBoth(t, cut(x), s, list(x), unsure(found(boolean)), x)
		wantBoth(t, cut(x)+" as the prototype", s, list(rec(0)), unsure(found(boolean, num)), x, rec(0))
	}
}

// P10.1: a dead state has no objects; one that has some all the same may not be, and is asked as others are.
func TestDead(t *testing.T) {
	dead := api.State{Dead: true}
	wantBoth(t, "an object", dead, list(rec(0), sum(1)), nowhere(), rec(0), sum(1))
	wantBoth(t, "null", dead, list(null), unsure(nowhere()), null)
	wantBoth(t, "any", dead, list(dyn, rec(0)), open(nowhere()), rec(0), dyn)
	dead.Locs = []api.Loc{loc(rec(0), shape(list(sum(1)))), loc(sum(1), shape(nil, sure("p", num)))}
	wantBoth(t, "dead, with objects", dead, list(rec(0)), found(num), rec(0), sum(1))
}

// P10.2: where a property is surely an object's own, its prototype is of no moment.
func TestOwn(t *testing.T) {
	for _, proto := range [][]api.Atom{nil, {null}, {dyn}, {rec(0)}, {rec(1)}, {null, num, rec(1), sum(1), dyn}, none(), {dyn, dyn, null}} {
		s := locs(loc(rec(0), shape(proto, sure("p", num))), loc(rec(1), shape(list(boolean), perhaps("p", boolean))), loc(sum(0), shape(proto, sure("p", fun(1), sum(0)))))
		wantBoth(t, "newest "+cut(proto), s, list(rec(0)), found(num), rec(0))
		wantBoth(t, "older "+cut(proto), s, list(sum(0)), found(fun(1), sum(0)), sum(0))
		wantBoth(t, "both "+cut(proto), s, list(rec(0), sum(0)), found(num, fun(1), sum(0)), rec(0), sum(0))
	}
}

// some is a state whose lists have room behind them, in which all kinds of atoms are reached and found.
func some() api.State {
	room := func(l ...api.Atom) []api.Atom { return append(make([]api.Atom, 0, len(l)+3), l...) }
	fields := func(l ...api.Field) []api.Field { return append(make([]api.Field, 0, len(l)+3), l...) }
	l := append(make([]api.Loc, 0, 6),
		loc(rec(0), shape(room(null, rec(1)), fields(perhaps("p", room(num, fun(1))...))...)),
		loc(rec(1), shape(room(sum(0), dyn), fields(sure("o", room(dyn)...), perhaps("p", room(boolean)...))...)),
		loc(sum(0), shape(room(null), fields(sure("p", room(null, sum(0))...))...)))
	return locs(l...)
}

// listsOf are all lists of atoms of a state's objects, to their whole capacity.
func listsOf(s api.State) [][]api.Atom {
	var l [][]api.Atom
	for _, x := range s.Locs {
		l = append(l, x.Shape.Proto[:cap(x.Shape.Proto)])
		for _, f := range x.Shape.Fields {
			l = append(l, f.Vals[:cap(f.Vals)])
		}
	}
	return l
}

// R4: arguments stay as they were, also behind their ends.
func TestArgumentsStay(t *testing.T) {
	s, kept := some(), some()
	back := some()
	slices.Reverse(back.Locs)
	keptBack := some()
	slices.Reverse(keptBack.Locs)
	v := append(make([]api.Atom, 0, 6), dyn, rec(0), num, rec(0))
	for range 2 {
		for _, name := range []string{"p", "o", "q"} {
			lookup.Find(s, v, name)
			lookup.Reach(s, v, name)
			lookup.Find(back, v, name)
			lookup.Reach(back, v, name)
		}
	}
	if !slices.Equal(v[:6], list(dyn, rec(0), num, rec(0), null, null)) {
		t.Error("v is changed:", v[:6])
	}
	for i, l := range [][2]api.State{{s, kept}, {back, keptBack}} {
		if state.Text(l[0]) != state.Text(l[1]) || !slices.EqualFunc(listsOf(l[0]), listsOf(l[1]), slices.Equal[[]api.Atom]) {
			t.Errorf("the state %v is changed: %v", i, l[0])
		}
		if l[0].Locs[:4][3].Shape.Proto != nil {
			t.Errorf("the state %v is changed behind its end", i)
		}
	}
}

// R4: an answer shares no memory with an argument, nor with another answer.
func TestNothingShared(t *testing.T) {
	spoil := func(l []api.Atom) {
		l = l[:cap(l)]
		for i := range l {
			l[i] = fun(77)
		}
	}
	s := some()
	for _, v := range [][]api.Atom{{rec(0)}, {sum(0)}, {rec(0), rec(1), sum(0)}, {null, num}, {dyn}} {
		kept := slices.Clone(v)
		firstFound, firstReach := lookup.Find(s, v, "p"), lookup.Reach(s, v, "p")
		secondFound, secondReach := lookup.Find(s, v, "p"), lookup.Reach(s, v, "p")
		wantFound, wantReached := secondFound, slices.Clone(secondReach)
		wantFound.Vals = slices.Clone(secondFound.Vals)
		spoil(firstFound.Vals)
		spoil(firstReach)
		if !slices.Equal(v, kept) || state.Text(s) != state.Text(some()) || !slices.EqualFunc(listsOf(s), listsOf(some()), slices.Equal[[]api.Atom]) {
			t.Fatal("an argument shares memory with an answer:", v, s)
		}
		wantFind(t, "another answer", secondFound, wantFound)
		wantReach(t, "another answer", secondReach, wantReached...)
		wantFind(t, "asked again", lookup.Find(s, v, "p"), wantFound)
		spoil(v)
		wantReach(t, "the argument spoilt", secondReach, wantReached...)
	}
	wantFound := lookup.Find(some(), list(rec(0)), "p")
	got := lookup.Find(s, list(rec(0)), "p")
	for _, l := range listsOf(s) {
		spoil(l)
	}
	wantFind(t, "the state spoilt", got, wantFound)
}

// R5: empty lists and nil ones are the same.
func TestEmptyAndNilAreTheSame(t *testing.T) {
	for _, s := range []api.State{
		{}, {Vars: []api.Bind{}, Locs: []api.Loc{}}, locs(loc(rec(0), api.Shape{})), locs(loc(rec(0), api.Shape{Fields: []api.Field{}, Proto: list()})),
	} {
		wantBoth(t, cut(s), s, list(rec(0)), nowhere(), rec(0))
	}
	wantBoth(t, "Vals", locs(loc(rec(0), shape(list(), api.Field{Name: "p", Sure: true, Vals: list()}))), list(rec(0)), found(), rec(0))
}

// chain is a state of many objects, each of which is the next one's prototype; the last one has the property.
func chain(many int) api.State {
	var s api.State
	for i := range many {
		s.Locs = append(s.Locs, loc(rec(i), shape(list(rec(i+1)))))
	}
	s.Locs[many-1].Shape = shape(list(null), sure("p", num))
	return s
}

// R1: a long chain of prototypes, in time, rising and falling.
func TestLongChain(t *testing.T) {
	const many = 1 << 17
	s := chain(many)
	for range 2 {
		wantFind(t, "the last one", lookup.Find(s, list(rec(0)), "p"), found(num))
		l := lookup.Reach(s, list(rec(0)), "p")
		if len(l) != many || l[0] != rec(0) || l[many-1] != rec(many-1) {
			t.Error(len(l), cut(l))
		}
		wantFind(t, "nowhere", lookup.Find(s, list(rec(0)), "q"), unsure(nowhere()))
		slices.Reverse(s.Locs)
	}
}

// R1: objects of which each is each one's prototype, very many atoms, and very many properties, in time.
func TestWide(t *testing.T) {
	const many = 1 << 10
	var all []api.Atom
	var s api.State
	for i := range many {
		all = append(all, sum(i))
	}
	for i := range many {
		s.Locs = append(s.Locs, loc(sum(i), shape(all, perhaps("p", fun(i)))))
	}
	f := lookup.Find(s, list(sum(5)), "p")
	if len(f.Vals) != many || !f.Sure || !f.Some || f.Dyn {
		t.Error(cut(f))
	}
	wantReach(t, "all", lookup.Reach(s, list(sum(5)), "p"), all...)
	var v []api.Atom
	var fields []api.Field
	for i := range many * many {
		v = append(v, rec(many*many-i))
	}
	for i := range many * many / 16 {
		fields = append(fields, sure(strconv.Itoa(many*many+i), fun(i)))
	}
	if l := lookup.Reach(locs(), v, "p"); len(l) != many*many || l[0] != rec(1) {
		t.Error(len(l), cut(l))
	}
	wantFind(t, "the last property", lookup.Find(locs(loc(rec(1), shape(nil, fields...))), v, fields[len(fields)-1].Name), found(fun(many*many/16-1)))
}
