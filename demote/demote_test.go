package demote_test

import (
	"fmt"
	"math"
	"protean/api"
	"protean/demote"
	"protean/state"
	"slices"
	"strconv"
	"testing"
)

// Some atoms that may be.
var (
	null = api.Atom{Kind: api.AtNull}
	num  = api.Atom{Kind: api.AtNum}
	dyn  = api.Atom{Kind: api.AtDyn}
)

// dead is the state that is never come to.
var dead = api.State{Dead: true}

func fun(n int) api.Atom { return api.Atom{Kind: api.AtFun, N: n} }

func rec(n int) api.Atom { return api.Atom{Kind: api.AtRec, N: n} }

func sum(n int) api.Atom { return api.Atom{Kind: api.AtSum, N: n} }

func list(l ...api.Atom) []api.Atom { return l }

func sure(name string, v ...api.Atom) api.Field { return api.Field{Name: name, Sure: true, Vals: v} }

func perhaps(name string, v ...api.Atom) api.Field { return api.Field{Name: name, Vals: v} }

// shape is one whose prototype is null, of these properties.
func shape(fields ...api.Field) api.Shape { return api.Shape{Fields: fields, Proto: list(null)} }

// of is one whose prototype is told by these atoms, of no properties.
func of(proto ...api.Atom) api.Shape { return api.Shape{Proto: proto} }

func bind(name string, v ...api.Atom) api.Bind { return api.Bind{Name: name, Vals: v} }

func loc(x api.Atom, o api.Shape) api.Loc { return api.Loc{Atom: x, Shape: o} }

// vars is a state of these variables.
func vars(l ...api.Bind) api.State { return api.State{Vars: l} }

// locs is a state of these objects.
func locs(l ...api.Loc) api.State { return api.State{Locs: l} }

// with is s with these objects.
func with(s api.State, l ...api.Loc) api.State {
	s.Locs = l
	return s
}

// some is a state in which variables, properties and prototypes speak of the newest and of the older objects of the site 1, and of other sites'.
func some() api.State {
	return with(vars(bind("b", rec(1)), bind("d", null, fun(1), rec(0), rec(1), sum(1)), bind("f", num)),
		loc(rec(0), shape(sure("p", rec(0), rec(1)))), loc(rec(1), shape(sure("p", num), sure("q", rec(1), sum(2)))),
		loc(sum(0), of(rec(1), sum(1))), loc(sum(1), shape(sure("p", dyn), perhaps("r", rec(1)))), loc(sum(2), of(rec(0))))
}

// someAged is some, in which the newest object of the site 1 grew old.
func someAged() api.State {
	return with(vars(bind("b", sum(1)), bind("d", null, fun(1), rec(0), sum(1)), bind("f", num)),
		loc(rec(0), shape(sure("p", rec(0), sum(1)))), loc(sum(0), of(sum(1))),
		loc(sum(1), shape(sure("p", num, dyn), perhaps("q", sum(1), sum(2)), perhaps("r", sum(1)))), loc(sum(2), of(rec(0))))
}

// wrongLists are lists of atoms that may not be.
func wrongLists() [][]api.Atom {
	return [][]api.Atom{
		list(num, null), list(rec(0), rec(0)), list(sum(0), rec(0)), list(rec(1), rec(0)), list(rec(-1)), list(fun(math.MinInt)),
		list(api.Atom{Kind: -1}), list(api.Atom{Kind: api.AtKinds}), list(api.Atom{Kind: api.AtNum, N: 1}), list(null, api.Atom{Kind: math.MaxInt}),
	}
}

// wrongShapes are shapes that may not be.
func wrongShapes() []api.Shape {
	l := []api.Shape{shape(sure("q"), sure("p")), shape(sure("p"), sure("p")), shape(perhaps("p", num), sure("p", num)), shape(sure("p"), sure(""))}
	for _, v := range wrongLists() {
		l = append(l, of(v...), shape(sure("p", v...)), shape(sure("p", num), perhaps("q", v...)))
	}
	return l
}

// wrong are states that may not be, by their variables, by their objects, and as dead ones.
func wrong() []api.State {
	l := []api.State{
		vars(bind("q"), bind("p")), vars(bind("x"), bind("x")), vars(bind("x", rec(0)), bind("")), vars(bind("x"), bind("y"), bind("x")),
		locs(loc(rec(1), of()), loc(rec(0), of())), locs(loc(sum(0), of()), loc(rec(0), of())), locs(loc(rec(0), of()), loc(rec(0), of())),
		locs(loc(rec(0), of()), loc(sum(0), of()), loc(sum(0), of())), locs(loc(num, of())), locs(loc(rec(-1), of())), locs(loc(dyn, of())), locs(loc(fun(0), of())),
		{Dead: true, Vars: []api.Bind{bind("x", rec(0))}}, {Dead: true, Locs: []api.Loc{loc(rec(0), of())}},
	}
	for _, v := range wrongLists() {
		l = append(l, vars(bind("x", v...)), with(vars(bind("x", rec(0)), bind("y", v...)), loc(rec(0), of(null))))
	}
	for _, o := range wrongShapes() {
		l = append(l, locs(loc(rec(0), o)), locs(loc(sum(0), o)), locs(loc(rec(0), of()), loc(sum(0), o)), locs(loc(rec(7), o)))
	}
	return l
}

// cut is what is told of a value, which may be long.
func cut(x any) string {
	return fmt.Sprintf("%.300s", fmt.Sprint(x))
}

// same holds two states together; empty lists and nil ones are the same.
func same(a, b api.State) bool {
	return a.Dead == b.Dead && slices.EqualFunc(a.Vars, b.Vars, sameBind) && slices.EqualFunc(a.Locs, b.Locs, sameLoc)
}

func sameBind(a, b api.Bind) bool { return a.Name == b.Name && slices.Equal(a.Vals, b.Vals) }

func sameLoc(a, b api.Loc) bool { return a.Atom == b.Atom && sameShape(a.Shape, b.Shape) }

func sameShape(a, b api.Shape) bool {
	return slices.Equal(a.Proto, b.Proto) && slices.EqualFunc(a.Fields, b.Fields, func(f, g api.Field) bool {
		return f.Name == g.Name && f.Sure == g.Sure && slices.Equal(f.Vals, g.Vals)
	})
}

func wantState(t *testing.T, what string, got, want api.State) {
	t.Helper()
	if !same(got, want) {
		t.Errorf("%s: %s; want %s", what, cut(got), cut(want))
	}
}

func wantText(t *testing.T, s api.State, lines ...string) {
	t.Helper()
	want := ""
	for _, line := range lines {
		want += line + "\n"
	}
	if got := state.Text(s); got != want {
		t.Errorf("%s: Text %q; want %q", cut(s), got, want)
	}
}

func wantBool(t *testing.T, what string, got, want bool) {
	t.Helper()
	if got != want {
		t.Errorf("%s: %v; want %v", what, got, want)
	}
}

// P9.2: the chapter's example.
func TestExample(t *testing.T) {
	s := with(vars(bind("x", rec(0))), loc(rec(0), shape(sure("p", num))))
	wantText(t, s, "x: rec0", "rec0: p!(num) proto (null)")
	wantText(t, demote.Alloc(s, "y", 0, of(null)), "x: sum0", "y: rec0", "rec0: proto (null)", "sum0: p!(num) proto (null)")
	wantText(t, demote.Age(s, 0), "x: sum0", "sum0: p!(num) proto (null)")
}

// P9.1: of a site without an object, with a newest one alone, with older ones alone, with both.
func TestAgeObjects(t *testing.T) {
	p, q := shape(sure("p", num)), shape(perhaps("p", null), sure("q", dyn))
	for _, c := range []struct {
		what    string
		s, want []api.Loc
	}{
		{"none", nil, nil},
		{"another site's", []api.Loc{loc(rec(2), p), loc(sum(3), q)}, []api.Loc{loc(rec(2), p), loc(sum(3), q)}},
		{"newest", []api.Loc{loc(rec(1), p)}, []api.Loc{loc(sum(1), p)}},
		{"newest, without properties", []api.Loc{loc(rec(1), of())}, []api.Loc{loc(sum(1), of())}},
		{"newest, others around", []api.Loc{loc(rec(0), q), loc(rec(1), p), loc(rec(2), q), loc(sum(0), p), loc(sum(2), p)}, []api.Loc{loc(rec(0), q), loc(rec(2), q), loc(sum(0), p), loc(sum(1), p), loc(sum(2), p)}},
		{"older", []api.Loc{loc(sum(1), q)}, []api.Loc{loc(sum(1), q)}},
		{"both, sure in one", []api.Loc{loc(rec(1), p), loc(sum(1), q)}, []api.Loc{loc(sum(1), shape(perhaps("p", null, num), perhaps("q", dyn)))}},
		{"both, sure in the other", []api.Loc{loc(rec(1), q), loc(sum(1), p)}, []api.Loc{loc(sum(1), shape(perhaps("p", null, num), perhaps("q", dyn)))}},
		{"both, sure", []api.Loc{loc(rec(1), p), loc(sum(1), shape(sure("p", fun(0))))}, []api.Loc{loc(sum(1), shape(sure("p", num, fun(0))))}},
		{"both, of no properties", []api.Loc{loc(rec(1), of(rec(0))), loc(sum(1), of(null))}, []api.Loc{loc(sum(1), of(null, rec(0)))}},
		{"both, others around", []api.Loc{loc(rec(0), p), loc(rec(1), p), loc(rec(9), q), loc(sum(1), p), loc(sum(9), q)}, []api.Loc{loc(rec(0), p), loc(rec(9), q), loc(sum(1), p), loc(sum(9), q)}},
	} {
		wantState(t, c.what, demote.Age(locs(c.s...), 1), locs(c.want...))
	}
}

// P9.1: variables, properties and prototypes that speak of the newest object, of the older ones, and of others.
func TestAgeRenames(t *testing.T) {
	for _, c := range []struct{ v, want []api.Atom }{
		{nil, nil}, {list(null), list(null)}, {list(rec(1)), list(sum(1))}, {list(sum(1)), list(sum(1))}, {list(rec(1), sum(1)), list(sum(1))},
		{list(rec(0), rec(1), rec(2)), list(rec(0), rec(2), sum(1))}, {list(rec(1), sum(0), sum(2)), list(sum(0), sum(1), sum(2))},
		{list(rec(0), sum(2)), list(rec(0), sum(2))}, {list(num, fun(1), rec(1), dyn), list(num, fun(1), sum(1), dyn)},
	} {
		v, w := c.v, c.want
		what := fmt.Sprint(v)
		wantState(t, "variable "+what, demote.Age(vars(bind("x", v...), bind("y", num), bind("z", v...)), 1), vars(bind("x", w...), bind("y", num), bind("z", w...)))
		o := api.Shape{Fields: []api.Field{sure("p", v...), perhaps("q", v...)}, Proto: v}
		renamed := api.Shape{Fields: []api.Field{sure("p", w...), perhaps("q", w...)}, Proto: w}
		wantState(t, "newest "+what, demote.Age(locs(loc(rec(1), o)), 1), locs(loc(sum(1), renamed)))
		wantState(t, "older "+what, demote.Age(locs(loc(sum(1), o)), 1), locs(loc(sum(1), renamed)))
		wantState(t, "both "+what, demote.Age(locs(loc(rec(1), o), loc(sum(1), o)), 1), locs(loc(sum(1), renamed)))
		wantState(t, "others "+what, demote.Age(locs(loc(rec(0), o), loc(sum(2), o)), 1), locs(loc(rec(0), renamed), loc(sum(2), renamed)))
	}
}

// P9.1: all of it at once, of this site, and of others.
func TestAge(t *testing.T) {
	wantState(t, "site 1", demote.Age(some(), 1), someAged())
	wantState(t, "site 3", demote.Age(some(), 3), some())
	wantState(t, "the last site", demote.Age(some(), math.MaxInt), some())
	wantText(t, demote.Age(some(), 0), "b: rec1", "d: null fun1 rec1 sum0 sum1", "f: num", "rec1: p!(num) q!(rec1 sum2) proto (null)",
		"sum0: p?(rec1 sum0) proto (null rec1 sum1)", "sum1: p!(any) r?(rec1) proto (null)", "sum2: proto (sum0)")
	last := with(vars(bind("", rec(math.MaxInt))), loc(rec(math.MaxInt), of(rec(math.MaxInt))))
	wantState(t, "the last site's", demote.Age(last, math.MaxInt), with(vars(bind("", sum(math.MaxInt))), loc(sum(math.MaxInt), of(sum(math.MaxInt)))))
	wantState(t, "nothing", demote.Age(api.State{}, 0), api.State{})
}

// P9.1: variables and properties may speak of a newest object that is not there.
func TestAgeWithoutIt(t *testing.T) {
	s := with(vars(bind("x", rec(0))), loc(rec(1), of(rec(0))))
	wantState(t, "not there", demote.Age(s, 0), with(vars(bind("x", sum(0))), loc(rec(1), of(sum(0)))))
}

// P9.2: a variable that is there already, and one that is new, in all places among the others.
func TestAllocVariable(t *testing.T) {
	s := vars(bind("b", num), bind("d", rec(0), sum(1)))
	for _, c := range []struct {
		x    string
		want []api.Bind
	}{
		{"", []api.Bind{bind("", rec(0)), bind("b", num), bind("d", sum(0), sum(1))}},
		{"a", []api.Bind{bind("a", rec(0)), bind("b", num), bind("d", sum(0), sum(1))}},
		{"b", []api.Bind{bind("b", rec(0)), bind("d", sum(0), sum(1))}},
		{"b\x00", []api.Bind{bind("b", num), bind("b\x00", rec(0)), bind("d", sum(0), sum(1))}},
		{"d", []api.Bind{bind("b", num), bind("d", rec(0))}},
		{"\xff", []api.Bind{bind("b", num), bind("d", sum(0), sum(1)), bind("\xff", rec(0))}},
	} {
		wantState(t, "Alloc of "+strconv.Quote(c.x), demote.Alloc(s, c.x, 0, of(null)), with(vars(c.want...), loc(rec(0), of(null))))
	}
}

// P9.2: the new object's shape, also where it speaks of the newest object itself, which is an older one by then.
func TestAllocShape(t *testing.T) {
	was := with(vars(bind("x", rec(1))), loc(rec(1), shape(sure("p", num))))
	for _, c := range []struct{ o, want api.Shape }{
		{of(), of()}, {of(null), of(null)}, {shape(sure("p", num), perhaps("q", dyn)), shape(sure("p", num), perhaps("q", dyn))},
		{of(rec(1)), of(sum(1))}, {of(sum(1)), of(sum(1))}, {of(rec(0), rec(1), sum(1)), of(rec(0), sum(1))},
		{shape(sure("p", rec(1)), sure("q", null, rec(1), rec(2), sum(1))), shape(sure("p", sum(1)), sure("q", null, rec(2), sum(1)))},
		{shape(perhaps("p", rec(0), sum(2))), shape(perhaps("p", rec(0), sum(2)))},
	} {
		aged := loc(sum(1), shape(sure("p", num)))
		wantState(t, cut(c.o), demote.Alloc(api.State{}, "x", 1, c.o), with(vars(bind("x", rec(1))), loc(rec(1), c.want)))
		wantState(t, cut(c.o), demote.Alloc(was, "x", 1, c.o), with(vars(bind("x", rec(1))), loc(rec(1), c.want), aged))
		wantState(t, cut(c.o), demote.Alloc(was, "y", 1, c.o), with(vars(bind("x", sum(1)), bind("y", rec(1))), loc(rec(1), c.want), aged))
	}
}

// P9.2: all of it at once, of this site, and of others.
func TestAlloc(t *testing.T) {
	o := shape(sure("n", rec(1), rec(3)))
	aged := someAged()
	l := aged.Locs
	want := with(aged, l[0], loc(rec(1), shape(sure("n", rec(3), sum(1)))), l[1], l[2], l[3])
	want.Vars = []api.Bind{bind("b", sum(1)), bind("d", rec(1)), bind("f", num)}
	wantState(t, "site 1", demote.Alloc(some(), "d", 1, o), want)
	s := some()
	s.Vars = append(s.Vars, bind("g", rec(3)))
	s.Locs = slices.Insert(s.Locs, 2, loc(rec(3), shape(sure("n", rec(1), sum(3)))))
	wantState(t, "site 3", demote.Alloc(some(), "g", 3, o), s)
	wantState(t, "the last site", demote.Alloc(api.State{}, "x", math.MaxInt, of()), with(vars(bind("x", rec(math.MaxInt))), loc(rec(math.MaxInt), of())))
}

// P9.2: a list of objects of one site, each of which speaks of the one before.
func TestAllocAgain(t *testing.T) {
	s := vars(bind("l", null))
	for range 3 {
		s = demote.Alloc(s, "l", 0, shape(sure("next", state.Var(s, "l")...)))
	}
	wantText(t, s, "l: rec0", "rec0: next!(sum0) proto (null)", "sum0: next!(null sum0) proto (null)")
}

// P9.1, P9.2: of a dead state comes a dead one.
func TestDead(t *testing.T) {
	for _, s := range []api.State{dead, {Dead: true, Vars: []api.Bind{}, Locs: []api.Loc{}}} {
		for _, site := range []int{0, 1, math.MaxInt} {
			wantState(t, "Age", demote.Age(s, site), dead)
			wantState(t, "Alloc", demote.Alloc(s, "x", site, shape(sure("p", rec(0)))), dead)
		}
	}
}

// P9.1, P9.2: of states that may not be there is the zero State.
func TestStateThatMayNotBe(t *testing.T) {
	for i, s := range wrong() {
		for _, site := range []int{0, 1, 5, math.MaxInt, -1} {
			what := "wrong " + strconv.Itoa(i) + " at " + strconv.Itoa(site)
			wantState(t, what+": Age", demote.Age(s, site), api.State{})
			for _, x := range []string{"", "p", "x", "y"} {
				wantState(t, what+": Alloc", demote.Alloc(s, x, site, of(null)), api.State{})
			}
		}
	}
}

// P9.1, P9.2: of a site below 0 there is the zero State, also of a dead one.
func TestSiteBelowZero(t *testing.T) {
	for _, s := range []api.State{{}, some(), dead} {
		for _, site := range []int{-1, -2, math.MinInt} {
			wantState(t, "Age", demote.Age(s, site), api.State{})
			wantState(t, "Alloc", demote.Alloc(s, "x", site, of(null)), api.State{})
		}
	}
}

// P9.2: with a shape that may not be there is the zero State, also of a dead one, and where it may be once it is renamed.
func TestShapeThatMayNotBe(t *testing.T) {
	for _, s := range []api.State{{}, some(), dead} {
		for i, o := range wrongShapes() {
			for _, site := range []int{0, 1, 7, -1} {
				wantState(t, "wrong "+strconv.Itoa(i), demote.Alloc(s, "x", site, o), api.State{})
			}
		}
	}
}

// answers are all states that the calls answer of s.
func answers(s api.State) []api.State {
	o := shape(sure("p", num), perhaps("q", rec(1)))
	return []api.State{
		demote.Age(s, 1), demote.Age(s, 0), demote.Age(s, 5), demote.Alloc(s, "b", 1, o), demote.Alloc(s, "x", 1, o), demote.Alloc(s, "a", 0, o), demote.Alloc(s, "", 5, of()),
	}
}

// shapesOf are all shapes that a state has.
func shapesOf(s api.State) []*api.Shape {
	var l []*api.Shape
	for i := range s.Locs {
		l = append(l, &s.Locs[i].Shape)
	}
	return l
}

// atomsOf are all lists of atoms that a state has.
func atomsOf(s api.State) []*[]api.Atom {
	var l []*[]api.Atom
	for i := range s.Vars {
		l = append(l, &s.Vars[i].Vals)
	}
	for _, o := range shapesOf(s) {
		l = append(l, &o.Proto)
		for j := range o.Fields {
			l = append(l, &o.Fields[j].Vals)
		}
	}
	return l
}

// roomy is s in memory of its own, that has more behind each list.
func roomy(s api.State) api.State {
	s.Vars, s.Locs = slices.Grow(slices.Clone(s.Vars), 3), slices.Grow(slices.Clone(s.Locs), 3)
	for _, o := range shapesOf(s) {
		o.Fields = slices.Grow(slices.Clone(o.Fields), 3)
	}
	for _, l := range atomsOf(s) {
		*l = slices.Grow(slices.Clone(*l), 3)
	}
	return s
}

// stretched is s, in memory of its own, with what stands behind each list.
func stretched(s api.State) api.State {
	s.Vars, s.Locs = slices.Clone(s.Vars[:len(s.Vars)+1]), slices.Clone(s.Locs[:len(s.Locs)+1])
	for _, o := range shapesOf(s)[:len(s.Locs)-1] {
		o.Fields = slices.Clone(o.Fields[:len(o.Fields)+1])
	}
	for _, l := range atomsOf(s) {
		if cap(*l) > len(*l) {
			*l = slices.Clone((*l)[:len(*l)+1])
		}
	}
	return s
}

// spoil writes into all of a state's memory, and behind it.
func spoil(s api.State) {
	wrongAtom := api.Atom{Kind: 77, N: 77}
	for _, l := range atomsOf(s) {
		for i := range *l {
			(*l)[i] = wrongAtom
		}
		_ = append(*l, wrongAtom)
	}
	for _, o := range shapesOf(s) {
		for i := range o.Fields {
			o.Fields[i] = sure("spoilt", wrongAtom)
		}
		_ = append(o.Fields, sure("spoilt"))
	}
	for i := range s.Vars {
		s.Vars[i] = bind("spoilt", wrongAtom)
	}
	for i := range s.Locs {
		s.Locs[i] = loc(wrongAtom, of(wrongAtom))
	}
	_, _ = append(s.Vars, bind("spoilt")), append(s.Locs, loc(wrongAtom, of()))
}

// R4: arguments stay as they were, also behind their ends, and an answer's memory is its own.
func TestNothingShared(t *testing.T) {
	s := roomy(some())
	behind := stretched(s)
	first := answers(s)
	second := answers(s)
	wantState(t, "the argument", s, some())
	wantState(t, "behind the argument", stretched(s), behind)
	for i, answer := range first {
		spoil(answer)
		wantState(t, "the argument, answer "+strconv.Itoa(i)+" spoilt", s, some())
		for j := range second[i+1:] {
			wantState(t, "another answer", first[i+1+j], second[i+1+j])
		}
	}
	kept := make([]api.State, len(second))
	for i, again := range answers(s) {
		wantState(t, "again", again, second[i])
		kept[i] = roomy(again)
	}
	spoil(s)
	for i, answer := range second {
		wantState(t, "answer "+strconv.Itoa(i)+", the argument spoilt", answer, kept[i])
	}
}

// R4: no two lists of an answer share memory, also where those of the argument do.
func TestNothingSharedInOneAnswer(t *testing.T) {
	shared := list(num)
	o := api.Shape{Fields: []api.Field{sure("p", shared...), perhaps("q", shared...)}, Proto: shared}
	s := with(vars(bind("b", shared...), bind("d", shared...)), loc(rec(1), o), loc(rec(2), o), loc(sum(1), o))
	for i := range answers(s) {
		for at := range atomsOf(answers(s)[i]) {
			got, want := answers(s)[i], answers(s)[i]
			l := atomsOf(got)[at]
			for k := range *l {
				(*l)[k] = rec(5)
			}
			_ = append(*l, rec(6))
			*l = *atomsOf(want)[at]
			wantState(t, "answer "+strconv.Itoa(i), got, want)
		}
		for at := range shapesOf(answers(s)[i]) {
			got, want := answers(s)[i], answers(s)[i]
			o := shapesOf(got)[at]
			for k := range o.Fields {
				o.Fields[k] = sure("spoilt")
			}
			*o = *shapesOf(want)[at]
			wantState(t, "answer "+strconv.Itoa(i), got, want)
		}
	}
}

// R4: a dead state's answer shares no memory with it, also behind its ends.
func TestNothingSharedOfDead(t *testing.T) {
	variables, objects := []api.Bind{bind("b", num)}, []api.Loc{loc(rec(0), of(null))}
	s := api.State{Dead: true, Vars: variables[:0], Locs: objects[:0]}
	for _, got := range []api.State{demote.Age(s, 0), demote.Alloc(s, "x", 0, of())} {
		spoil(got)
		wantState(t, "behind the argument", with(vars(variables...), objects...), with(vars(bind("b", num)), loc(rec(0), of(null))))
	}
}

// R4: the new object shares no memory with the shape that was given.
func TestNothingSharedWithTheShape(t *testing.T) {
	v := list(num, rec(1), null)[:2]
	o := api.Shape{Fields: []api.Field{sure("p", v...), perhaps("q", rec(2))}, Proto: v}
	kept := api.Shape{Fields: []api.Field{sure("p", num, rec(1)), perhaps("q", rec(2))}, Proto: list(num, rec(1))}
	got := demote.Alloc(some(), "b", 1, o)
	wantBool(t, "o", sameShape(o, kept), true)
	spoil(got)
	wantBool(t, "o, the answer spoilt", sameShape(o, kept) && slices.Equal(v[:3], list(num, rec(1), null)), true)
	got = demote.Alloc(some(), "b", 1, o)
	want := roomy(got)
	spoil(locs(loc(rec(1), o)))
	wantState(t, "o spoilt", got, want)
}

// R5: empty lists and nil ones are the same.
func TestEmptyAndNilAreTheSame(t *testing.T) {
	none := api.Shape{Fields: []api.Field{}, Proto: list()}
	for _, s := range []api.State{{}, {Vars: []api.Bind{}, Locs: []api.Loc{}}, {Vars: []api.Bind{bind("p")}[:0], Locs: []api.Loc{loc(rec(0), of())}[:0]}} {
		wantState(t, "Age", demote.Age(s, 0), api.State{})
		for _, o := range []api.Shape{{}, none} {
			wantState(t, "Alloc", demote.Alloc(s, "x", 0, o), with(vars(bind("x", rec(0))), loc(rec(0), of())))
		}
	}
	s := with(vars(api.Bind{Name: "x", Vals: list()}), loc(rec(0), none), loc(sum(0), of()))
	wantState(t, "Age, empty lists within", demote.Age(s, 0), with(vars(bind("x")), loc(sum(0), of())))
}

// R1: very many variables, objects, properties and atoms, in time.
func TestLong(t *testing.T) {
	const many = 1 << 16
	var s, falling api.State
	var wide api.Shape
	for i := range many {
		s.Vars = append(s.Vars, bind(strconv.Itoa(2*many+i), rec(0), rec(i+1)))
		s.Locs = append(s.Locs, loc(rec(i), shape(sure("p", rec(0)))))
		falling.Vars = append(falling.Vars, bind(strconv.Itoa(3*many-i)))
		wide.Fields = append(wide.Fields, sure(strconv.Itoa(2*many+i), rec(0)))
		wide.Proto = append(wide.Proto, rec(i))
	}
	aged := demote.Age(s, 0)
	wantBool(t, "Age", state.May(aged) && len(aged.Vars) == many && len(aged.Locs) == many, true)
	wantBool(t, "Age: the last variable", slices.Equal(aged.Vars[many-1].Vals, list(rec(many), sum(0))), true)
	wantState(t, "Age: the last object", locs(aged.Locs[many-1]), locs(loc(sum(0), shape(sure("p", sum(0))))))
	wantState(t, "Age, again", demote.Age(aged, 0), aged)
	wantState(t, "Age, falling", demote.Age(falling, 0), api.State{})
	got := demote.Alloc(s, "x", 0, wide)
	wantBool(t, "Alloc", state.May(got) && len(got.Vars) == many+1 && len(got.Locs) == many+1, true)
	o := got.Locs[0].Shape
	wantBool(t, "Alloc: the new object", len(o.Fields) == many && o.Fields[many-1].Vals[0] == sum(0) && o.Proto[0] == rec(1) && o.Proto[many-1] == sum(0), true)
}
