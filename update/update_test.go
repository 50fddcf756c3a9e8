package update_test

import (
	"fmt"
	"math"
	"protean/api"
	"protean/object"
	"protean/state"
	"protean/update"
	"slices"
	"strconv"
	"testing"
)

// Some atoms that may be.
var (
	null    = api.Atom{Kind: api.AtNull}
	boolean = api.Atom{Kind: api.AtBool}
	num     = api.Atom{Kind: api.AtNum}
	dyn     = api.Atom{Kind: api.AtDyn}
)

// dead is the state that is never come to.
var dead = api.State{Dead: true}

func fun(n int) api.Atom { return api.Atom{Kind: api.AtFun, N: n} }

func rec(n int) api.Atom { return api.Atom{Kind: api.AtRec, N: n} }

func sum(n int) api.Atom { return api.Atom{Kind: api.AtSum, N: n} }

func list(l ...api.Atom) []api.Atom { return l }

func sure(name string, v ...api.Atom) api.Field { return api.Field{Name: name, Sure: true, Vals: v} }

func perhaps(name string, v ...api.Atom) api.Field { return api.Field{Name: name, Vals: v} }

// shape is one whose prototype is null, of these properties.
func shape(fields ...api.Field) api.Shape { return api.Shape{Fields: fields, Proto: list(null)} }

// of is one whose prototype is told by these atoms, of no properties.
func of(proto ...api.Atom) api.Shape { return api.Shape{Proto: proto} }

func bind(name string, v ...api.Atom) api.Bind { return api.Bind{Name: name, Vals: v} }

func loc(x api.Atom, o api.Shape) api.Loc { return api.Loc{Atom: x, Shape: o} }

// vars is a state of these variables.
func vars(l ...api.Bind) api.State { return api.State{Vars: l} }

// locs is a state of these objects.
func locs(l ...api.Loc) api.State { return api.State{Locs: l} }

// with is s with these objects.
func with(s api.State, l ...api.Loc) api.State {
	s.Locs = l
	return s
}

// wrongLists are lists of atoms that may not be.
func wrongLists() [][]api.Atom {
	return [][]api.Atom{
		list(num, null), list(rec(0), rec(0)), list(sum(0), rec(0)), list(rec(1), rec(0)), list(rec(-1)), list(fun(math.MinInt)),
		list(api.Atom{Kind: -1}), list(api.Atom{Kind: api.AtKinds}), list(api.Atom{Kind: api.AtNum, N: 1}), list(null, api.Atom{Kind: math.MaxInt}),
	}
}

// wrongShapes are shapes that may not be.
func wrongShapes() []api.Shape {
	l := []api.Shape{shape(sure("q"), sure("p")), shape(sure("p"), sure("p")), shape(perhaps("p", num), sure("p", num)), shape(sure("p"), sure(""))}
	for _, v := range wrongLists() {
		l = append(l, of(v...), shape(sure("p", v...)), shape(sure("p", num), perhaps("q", v...)))
	}
	return l
}

// wrong are states that may not be, by their variables, by their objects, and as dead ones.
func wrong() []api.State {
	l := []api.State{
		vars(bind("q"), bind("p")), vars(bind("x"), bind("x")), vars(bind("x", rec(0)), bind("")), vars(bind("x"), bind("y"), bind("x")),
		locs(loc(rec(1), of()), loc(rec(0), of())), locs(loc(sum(0), of()), loc(rec(0), of())), locs(loc(rec(0), of()), loc(rec(0), of())),
		locs(loc(rec(0), of()), loc(sum(0), of()), loc(sum(0), of())), locs(loc(num, of())), locs(loc(rec(-1), of())), locs(loc(dyn, of())), locs(loc(fun(0), of())),
		{Dead: true, Vars: []api.Bind{bind("x", rec(0))}}, {Dead: true, Locs: []api.Loc{loc(rec(0), of())}},
	}
	for _, v := range wrongLists() {
		l = append(l, vars(bind("x", v...)), with(vars(bind("x", rec(0)), bind("y", v...)), loc(rec(0), of(null))))
	}
	for _, o := range wrongShapes() {
		l = append(l, locs(loc(rec(0), o)), locs(loc(sum(0), o)), locs(loc(rec(0), of()), loc(sum(0), o)), locs(loc(rec(7), o)))
	}
	return l
}

// cut is what is told of a value, which may be long.
func cut(x any) string {
	return fmt.Sprintf("%.300s", fmt.Sprint(x))
}

// same holds two states together; empty lists and nil ones are the same.
func same(a, b api.State) bool {
	return a.Dead == b.Dead && slices.EqualFunc(a.Vars, b.Vars, sameBind) && slices.EqualFunc(a.Locs, b.Locs, sameLoc)
}

func sameBind(a, b api.Bind) bool { return a.Name == b.Name && slices.Equal(a.Vals, b.Vals) }

func sameLoc(a, b api.Loc) bool { return a.Atom == b.Atom && sameShape(a.Shape, b.Shape) }

func sameShape(a, b api.Shape) bool {
	return slices.Equal(a.Proto, b.Proto) && slices.EqualFunc(a.Fields, b.Fields, func(f, g api.Field) bool {
		return f.Name == g.Name && f.Sure == g.Sure && slices.Equal(f.Vals, g.Vals)
	})
}

func wantState(t *testing.T, what string, got, want api.State) {
	t.Helper()
	if !same(got, want) {
		t.Errorf("%s: %s; want %s", what, cut(got), cut(want))
	}
}

func wantText(t *testing.T, s api.State, lines ...string) {
	t.Helper()
	want := ""
	for _, line := range lines {
		want += line + "\n"
	}
	if got := state.Text(s); got != want {
		t.Errorf("%s: Text %q; want %q", cut(s), got, want)
	}
}

func wantBool(t *testing.T, what string, got, want bool) {
	t.Helper()
	if got != want {
		t.Errorf("%s: %v; want %v", what, got, want)
	}
}

// none are atoms that may not be.
func none() []api.Atom {
	return list(api.Atom{Kind: -1}, api.Atom{Kind: api.AtKinds}, api.Atom{Kind: api.AtNum, N: 1}, api.Atom{Kind: api.AtDyn, N: -1}, api.Atom{Kind: api.AtDyn, N: 1}, api.Atom{Kind: api.AtNull, N: math.MaxInt},
		rec(-1), sum(-1), rec(math.MinInt), sum(math.MinInt), fun(-1), api.Atom{Kind: math.MaxInt, N: math.MaxInt}, api.Atom{Kind: math.MinInt})
}

// some is a state of the newest and of the older objects of several sites, in which p is surely, perhaps, and not there, and of variables that speak of them.
func some() api.State {
	return with(vars(bind("b", rec(1)), bind("d", null, fun(1), rec(0), rec(1), sum(1)), bind("f", num)),
		loc(rec(0), shape(sure("o", null), sure("p", num), sure("q", rec(1)))), loc(rec(1), shape(perhaps("p", boolean, rec(0)))),
		loc(sum(0), of(rec(1), sum(1))), loc(sum(1), shape(sure("p", dyn), perhaps("r", rec(1)))), loc(sum(3), of()))
}

// written is some, in which p of each object is as it is told; where nothing is told it stays.
func written(rec0, rec1, sum0, sum1, sum3 []api.Field) api.State {
	s := some()
	for i, p := range [][]api.Field{rec0, rec1, sum0, sum1, sum3} {
		l := &s.Locs[i].Shape.Fields
		if len(p) > 0 {
			*l = slices.DeleteFunc(*l, func(f api.Field) bool { return f.Name == "p" })
			*l = append(*l, p...)
			slices.SortFunc(*l, func(f, g api.Field) int { return int(f.Name[0]) - int(g.Name[0]) })
		}
	}
	return s
}

// only is the list of one property alone.
func only(f api.Field) []api.Field { return []api.Field{f} }

// P11.1: the chapter's example.
func TestExample(t *testing.T) {
	s := locs(loc(rec(0), shape(sure("p", num))))
	wantText(t, update.Write(s, list(rec(0)), "p", list(null)), "rec0: p!(null) proto (null)")
	wantText(t, update.Write(s, list(rec(0), sum(0)), "p", list(null)), "rec0: p!(null num) proto (null)")
}

// P11.1: Strong, of lists of one atom and of more, in any order, also of one twice and of such as may not be.
func TestStrong(t *testing.T) {
	for _, c := range []struct {
		v    []api.Atom
		want bool
	}{
		{nil, false}, {list(), false}, {list(rec(0)), true}, {list(rec(7)), true}, {list(rec(math.MaxInt)), true}, {list(sum(0)), false}, {list(sum(7)), false},
		{list(null), false}, {list(boolean), false}, {list(num), false}, {list(fun(0)), false}, {list(dyn), false},
		{list(rec(0), rec(0)), true}, {list(rec(3), rec(3), rec(3)), true}, {list(rec(0), rec(1)), false}, {list(rec(1), rec(0), rec(1)), false}, {list(rec(0), sum(0)), false}, {list(sum(0), rec(0)), false},
		{list(sum(0), sum(0)), false}, {list(rec(0), null), false}, {list(null, rec(0)), false}, {list(rec(0), dyn), false}, {list(fun(0), rec(0)), false}, {list(num, num), false}, {list(null, null), false},
		{none(), false}, {append(none(), rec(0)), true}, {append(list(rec(0)), none()...), true}, {append(append(list(rec(0)), none()...), rec(0)), true}, {append(none(), sum(0)), false},
	} {
		wantBool(t, "Strong of "+cut(c.v), update.Strong(c.v), c.want)
	}
	for _, x := range none() {
		wantBool(t, "Strong of "+cut(x), update.Strong(list(x)), false)
		wantBool(t, "Strong of rec2 and "+cut(x), update.Strong(list(x, rec(2))), true)
		wantBool(t, "Strong of "+cut(x)+" and rec2", update.Strong(list(rec(2), x)), true)
	}
}

// P11.1: the newest object of a site alone, whose property is surely, perhaps, and not there.
func TestWriteStrongly(t *testing.T) {
	w := list(fun(2))
	wantState(t, "surely there", update.Write(some(), list(rec(0)), "p", w), written(only(sure("p", fun(2))), nil, nil, nil, nil))
	wantState(t, "perhaps there", update.Write(some(), list(rec(1)), "p", w), written(nil, only(sure("p", fun(2))), nil, nil, nil))
	s := some()
	s.Locs[1].Shape = shape(perhaps("p", boolean, rec(0)), sure("q", fun(2)))
	wantState(t, "not there", update.Write(some(), list(rec(1)), "q", w), s)
	wantState(t, "itself", update.Write(some(), list(rec(0)), "p", list(rec(0))), written(only(sure("p", rec(0))), nil, nil, nil, nil))
	wantState(t, "nothing at all", update.Write(some(), list(rec(0)), "p", nil), written(only(sure("p")), nil, nil, nil, nil))
	wantState(t, "what it was", update.Write(some(), list(rec(0)), "p", list(num)), some())
	wantState(t, "no such object", update.Write(some(), list(rec(2)), "p", w), some())
	wantState(t, "no such newest object", update.Write(some(), list(rec(3)), "p", w), some())
	wantState(t, "no objects", update.Write(vars(bind("x", rec(0))), list(rec(0)), "p", w), vars(bind("x", rec(0))))
	wantState(t, "the last site", update.Write(locs(loc(rec(math.MaxInt), of())), list(rec(math.MaxInt)), "p", w), locs(loc(rec(math.MaxInt), api.Shape{Fields: only(sure("p", fun(2)))})))
}

// P11.1: what is one newest object only once it is normed.
func TestWriteStronglyOnceNormed(t *testing.T) {
	want := written(only(sure("p", null)), nil, nil, nil, nil)
	for _, v := range [][]api.Atom{list(rec(0), rec(0)), list(rec(0), rec(0), rec(0)), append(none(), rec(0)), append(list(rec(0)), none()...), list(rec(0), api.Atom{Kind: api.AtDyn, N: 1}, rec(0)), list(sum(-1), rec(0), rec(-1))} {
		wantState(t, "to "+cut(v), update.Write(some(), v, "p", list(null)), want)
	}
}

// P11.1: several objects, older ones, and what is no object.
func TestWriteWeakly(t *testing.T) {
	toRec0, toRec1, toSum0, toSum1, toSum3 := only(sure("p", null, num)), only(perhaps("p", null, boolean, rec(0))), only(perhaps("p", null)), only(sure("p", null, dyn)), only(perhaps("p", null))
	for _, c := range []struct {
		v    []api.Atom
		want api.State
	}{
		{list(rec(0), sum(0)), written(toRec0, nil, toSum0, nil, nil)},
		{list(rec(1), sum(1)), written(nil, toRec1, nil, toSum1, nil)},
		{list(sum(1)), written(nil, nil, nil, toSum1, nil)},
		{list(sum(0)), written(nil, nil, toSum0, nil, nil)},
		{list(sum(3)), written(nil, nil, nil, nil, toSum3)},
		{list(rec(0), rec(1)), written(toRec0, toRec1, nil, nil, nil)},
		{list(sum(1), rec(1), rec(0), sum(1)), written(toRec0, toRec1, nil, toSum1, nil)},
		{list(rec(0), sum(3)), written(toRec0, nil, nil, nil, toSum3)},
		{list(rec(0), null), written(toRec0, nil, nil, nil, nil)},
		{list(null, boolean, num, fun(0), rec(0)), written(toRec0, nil, nil, nil, nil)},
		{list(rec(0), fun(1)), written(toRec0, nil, nil, nil, nil)},
		{list(rec(0), rec(2)), written(toRec0, nil, nil, nil, nil)},
		{list(rec(0), rec(3)), written(toRec0, nil, nil, nil, nil)},
		{list(rec(9), sum(9), sum(0)), written(nil, nil, toSum0, nil, nil)},
		{append(none(), rec(0), sum(1)), written(toRec0, nil, nil, toSum1, nil)},
	} {
		wantState(t, "to "+cut(c.v), update.Write(some(), c.v, "p", list(null)), c.want)
	}
}

// P11.1: to no atoms, to what is no object, to one that is not told of, and to such as may not be nothing is written.
func TestWriteToNobody(t *testing.T) {
	for _, v := range [][]api.Atom{nil, {}, list(null), list(boolean), list(num), list(fun(0)), list(fun(1), null), list(null, boolean, num, fun(0)), list(sum(2)), list(rec(2), sum(2)), list(rec(3), rec(4)), none(), append(none(), null)} {
		wantState(t, "to "+cut(v), update.Write(some(), v, "p", list(null)), some())
		wantState(t, "to "+cut(v)+", nothing is told", update.Write(api.State{}, v, "p", list(null)), api.State{})
	}
	for _, x := range none() {
		wantState(t, "to "+cut(x), update.Write(some(), list(x), "p", list(null)), some())
	}
}

// P11.1: to anything, alone and among other atoms: each object may be it.
func TestWriteToAnything(t *testing.T) {
	want := written(only(sure("p", null, num)), only(perhaps("p", null, boolean, rec(0))), only(perhaps("p", null)), only(sure("p", null, dyn)), only(perhaps("p", null)))
	for _, v := range [][]api.Atom{list(dyn), list(dyn, dyn), list(rec(0), dyn), list(dyn, rec(0)), list(sum(0), dyn), list(rec(9), dyn), list(null, num, dyn), list(num, dyn, rec(1), sum(1), null), append(none(), dyn), append(list(dyn), none()...)} {
		wantState(t, "to "+cut(v), update.Write(some(), v, "p", list(null)), want)
		wantState(t, "to "+cut(v)+", nothing is told", update.Write(vars(bind("x", dyn)), v, "p", list(null)), vars(bind("x", dyn)))
	}
}

// P11.1: what is written is normed: such as may not be is none of it, and it need not rise.
func TestWhatIsWritten(t *testing.T) {
	s := locs(loc(rec(0), shape(sure("p", num))), loc(sum(0), shape(perhaps("p", fun(0)))))
	for _, c := range []struct{ w, strong, weak, older []api.Atom }{
		{nil, nil, list(num), list(fun(0))}, {list(num), list(num), list(num), list(num, fun(0))}, {list(dyn), list(dyn), list(num, dyn), list(fun(0), dyn)},
		{list(rec(1), null, rec(1)), list(null, rec(1)), list(null, num, rec(1)), list(null, fun(0), rec(1))}, {list(sum(0), rec(0)), list(rec(0), sum(0)), list(num, rec(0), sum(0)), list(fun(0), rec(0), sum(0))},
		{none(), nil, list(num), list(fun(0))}, {append(none(), sum(9), null), list(null, sum(9)), list(null, num, sum(9)), list(null, fun(0), sum(9))},
	} {
		what := cut(c.w)
		wantState(t, "strongly "+what, update.Write(s, list(rec(0)), "p", c.w), locs(loc(rec(0), shape(sure("p", c.strong...))), s.Locs[1]))
		wantState(t, "weakly "+what, update.Write(s, list(rec(0), null), "p", c.w), locs(loc(rec(0), shape(sure("p", c.weak...))), s.Locs[1]))
		wantState(t, "to older ones "+what, update.Write(s, list(sum(0)), "p", c.w), locs(s.Locs[0], loc(sum(0), shape(perhaps("p", c.older...)))))
		wantState(t, "to anything "+what, update.Write(s, list(dyn), "p", c.w), locs(loc(rec(0), shape(sure("p", c.weak...))), loc(sum(0), shape(perhaps("p", c.older...)))))
	}
}

// P11.1, P11.2: which property is written, in all places among the others; the empty name is one as others are.
func TestWhichProperty(t *testing.T) {
	b, d := sure("b", num), perhaps("d", rec(0))
	for _, c := range []struct {
		name                string
		strong, weak, havoc []api.Field
	}{
		{"", []api.Field{sure("", null), b, d}, []api.Field{perhaps("", null), b, d}, []api.Field{perhaps("", dyn), b, d}},
		{"a", []api.Field{sure("a", null), b, d}, []api.Field{perhaps("a", null), b, d}, []api.Field{perhaps("a", dyn), b, d}},
		{"b", []api.Field{sure("b", null), d}, []api.Field{sure("b", null, num), d}, []api.Field{sure("b", num, dyn), d}},
		{"b\x00", []api.Field{b, sure("b\x00", null), d}, []api.Field{b, perhaps("b\x00", null), d}, []api.Field{b, perhaps("b\x00", dyn), d}},
		{"d", []api.Field{b, sure("d", null)}, []api.Field{b, perhaps("d", null, rec(0))}, []api.Field{b, perhaps("d", rec(0), dyn)}},
		{"\xff", []api.Field{b, d, sure("\xff", null)}, []api.Field{b, d, perhaps("\xff", null)}, []api.Field{b, d, perhaps("\xff", dyn)}},
	} {
		s := locs(loc(rec(0), shape(b, d)))
		what := strconv.Quote(c.name)
		wantState(t, "strongly "+what, update.Write(s, list(rec(0)), c.name, list(null)), locs(loc(rec(0), shape(c.strong...))))
		wantState(t, "weakly "+what, update.Write(s, list(dyn), c.name, list(null)), locs(loc(rec(0), shape(c.weak...))))
		wantState(t, "by nobody knows whom "+what, update.Havoc(s, []string{c.name}), locs(loc(rec(0), shape(c.havoc...))))
	}
}

// P11.2: each object, some names, some of them twice, in any order.
func TestHavoc(t *testing.T) {
	wantState(t, "p", update.Havoc(some(), []string{"p"}), written(only(sure("p", num, dyn)), only(perhaps("p", boolean, rec(0), dyn)), only(perhaps("p", dyn)), only(sure("p", dyn)), only(perhaps("p", dyn))))
	wantState(t, "p twice", update.Havoc(some(), []string{"p", "p"}), update.Havoc(some(), []string{"p"}))
	wantText(t, update.Havoc(some(), []string{"r", "p", "", "r", "p"}), "b: rec1", "d: null fun1 rec0 rec1 sum1", "f: num",
		"rec0: ?(any) o!(null) p!(num any) q!(rec1) r?(any) proto (null)", "rec1: ?(any) p?(bool rec0 any) r?(any) proto (null)",
		"sum0: ?(any) p?(any) r?(any) proto (rec1 sum1)", "sum1: ?(any) p!(any) r?(rec1 any) proto (null)", "sum3: ?(any) p?(any) r?(any) proto ()")
	one := locs(loc(rec(0), shape(sure("c", num), perhaps("e"), sure("g", dyn))))
	for _, c := range []struct {
		names []string
		want  []api.Field
	}{
		{[]string{"a", "b"}, []api.Field{perhaps("a", dyn), perhaps("b", dyn), sure("c", num), perhaps("e"), sure("g", dyn)}},
		{[]string{"g", "c"}, []api.Field{sure("c", num, dyn), perhaps("e"), sure("g", dyn)}},
		{[]string{"h", "e", "i"}, []api.Field{sure("c", num), perhaps("e", dyn), sure("g", dyn), perhaps("h", dyn), perhaps("i", dyn)}},
		{[]string{"f", "d", "b", "d", "f", "h"}, []api.Field{perhaps("b", dyn), sure("c", num), perhaps("d", dyn), perhaps("e"), perhaps("f", dyn), sure("g", dyn), perhaps("h", dyn)}},
		{[]string{"e", "d", "c", "f", "g"}, []api.Field{sure("c", num, dyn), perhaps("d", dyn), perhaps("e", dyn), perhaps("f", dyn), sure("g", dyn)}},
	} {
		wantState(t, cut(c.names), update.Havoc(one, c.names), locs(loc(rec(0), shape(c.want...))))
	}
}

// P11.2: of no names, and of no objects, a state stays.
func TestHavocNothing(t *testing.T) {
	for _, names := range [][]string{nil, {}} {
		wantState(t, "no names", update.Havoc(some(), names), some())
	}
	for _, s := range []api.State{{}, vars(bind("x", rec(0)), bind("y", dyn))} {
		wantState(t, "no objects", update.Havoc(s, []string{"p", ""}), s)
	}
}

// P11.3: what is written strongly is that alone, and all that is not written stays.
func TestOthersStay(t *testing.T) {
	got := update.Write(some(), list(rec(0)), "p", list(sum(0), null))
	o, _ := state.Loc(got, rec(0))
	p, there := object.Get(o, "p")
	wantBool(t, "p is that alone", there && p.Sure && slices.Equal(p.Vals, list(null, sum(0))), true)
	wantState(t, "strongly, and back", update.Write(got, list(rec(0)), "p", list(num)), some())
	for _, v := range [][]api.Atom{list(rec(0)), list(rec(1), sum(1)), list(sum(3)), list(dyn)} {
		got := update.Write(some(), v, "p", list(null))
		wantBool(t, "variables stay", slices.EqualFunc(got.Vars, some().Vars, sameBind), true)
		for i, l := range got.Locs {
			was := some().Locs[i]
			wantBool(t, "prototypes stay", l.Atom == was.Atom && slices.Equal(l.Shape.Proto, was.Shape.Proto), true)
			if !slices.Contains(v, l.Atom) && !slices.Contains(v, dyn) {
				wantBool(t, "objects stay", sameShape(l.Shape, was.Shape), true)
			}
		}
	}
}

// P11.1, P11.2: of a dead state comes a dead one.
func TestDead(t *testing.T) {
	for _, s := range []api.State{dead, {Dead: true, Vars: []api.Bind{}, Locs: []api.Loc{}}} {
		for _, v := range [][]api.Atom{nil, list(rec(0)), list(sum(0)), list(dyn), list(null), none()} {
			wantState(t, "Write", update.Write(s, v, "p", list(num)), dead)
		}
		for _, names := range [][]string{nil, {"p"}, {"", "", "q"}} {
			wantState(t, "Havoc", update.Havoc(s, names), dead)
		}
	}
}

// P11.1, P11.2: of states that may not be there is the zero State.
func TestStateThatMayNotBe(t *testing.T) {
	for i, s := range wrong() {
		what := "wrong " + strconv.Itoa(i)
		for _, v := range [][]api.Atom{nil, list(rec(0)), list(rec(7)), list(rec(9)), list(sum(0)), list(rec(0), sum(0)), list(rec(-1)), list(num), list(dyn), none()} {
			for _, name := range []string{"", "p", "q", "r"} {
				wantState(t, what+": Write", update.Write(s, v, name, list(num)), api.State{})
			}
		}
		for _, names := range [][]string{nil, {}, {"p"}, {"q", "p"}, {""}} {
			wantState(t, what+": Havoc", update.Havoc(s, names), api.State{})
		}
	}
}

// answers are all states that the calls answer of s.
func answers(s api.State) []api.State {
	w := list(sum(3), null)
	return []api.State{
		update.Write(s, list(rec(0)), "p", w), update.Write(s, list(rec(1)), "a", w), update.Write(s, list(rec(0), sum(1)), "p", w), update.Write(s, list(dyn), "z", w), update.Write(s, nil, "p", w),
		update.Write(s, list(rec(9)), "p", w), update.Havoc(s, []string{"p", "r", "a", "o", "z"}), update.Havoc(s, []string{"p"}), update.Havoc(s, nil),
	}
}

// shapesOf are all shapes that a state has.
func shapesOf(s api.State) []*api.Shape {
	var l []*api.Shape
	for i := range s.Locs {
		l = append(l, &s.Locs[i].Shape)
	}
	return l
}

// atomsOf are all lists of atoms that a state has.
func atomsOf(s api.State) []*[]api.Atom {
	var l []*[]api.Atom
	for i := range s.Vars {
		l = append(l, &s.Vars[i].Vals)
	}
	for _, o := range shapesOf(s) {
		l = append(l, &o.Proto)
		for j := range o.Fields {
			l = append(l, &o.Fields[j].Vals)
		}
	}
	return l
}

// roomy is s in memory of its own, that has more behind each list.
func roomy(s api.State) api.State {
	s.Vars, s.Locs = slices.Grow(slices.Clone(s.Vars), 3), slices.Grow(slices.Clone(s.Locs), 3)
	for _, o := range shapesOf(s) {
		o.Fields = slices.Grow(slices.Clone(o.Fields), 3)
	}
	for _, l := range atomsOf(s) {
		*l = slices.Grow(slices.Clone(*l), 3)
	}
	return s
}

// stretched is s, in memory of its own, with what stands behind each list.
func stretched(s api.State) api.State {
	s.Vars, s.Locs = slices.Clone(s.Vars[:len(s.Vars)+1]), slices.Clone(s.Locs[:len(s.Locs)+1])
	for _, o := range shapesOf(s)[:len(s.Locs)-1] {
		o.Fields = slices.Clone(o.Fields[:len(o.Fields)+1])
	}
	for _, l := range atomsOf(s) {
		if cap(*l) > len(*l) {
			*l = slices.Clone((*l)[:len(*l)+1])
		}
	}
	return s
}

// spoil writes into all of a state's memory, and behind it.
func spoil(s api.State) {
	wrongAtom := api.Atom{Kind: 77, N: 77}
	for _, l := range atomsOf(s) {
		for i := range *l {
			(*l)[i] = wrongAtom
		}
		_ = append(*l, wrongAtom)
	}
	for _, o := range shapesOf(s) {
		for i := range o.Fields {
			o.Fields[i] = sure("spoilt", wrongAtom)
		}
		_ = append(o.Fields, sure("spoilt"))
	}
	for i := range s.Vars {
		s.Vars[i] = bind("spoilt", wrongAtom)
	}
	for i := range s.Locs {
		s.Locs[i] = loc(wrongAtom, of(wrongAtom))
	}
	_, _ = append(s.Vars, bind("spoilt")), append(s.Locs, loc(wrongAtom, of()))
}

// R4: arguments stay as they were, also behind their ends, and an answer's memory is its own.
func TestNothingShared(t *testing.T) {
	s := roomy(some())
	behind := stretched(s)
	first := answers(s)
	second := answers(s)
	wantState(t, "the argument", s, some())
	wantState(t, "behind the argument", stretched(s), behind)
	for i, answer := range first {
		spoil(answer)
		wantState(t, "the argument, answer "+strconv.Itoa(i)+" spoilt", s, some())
		for j := range second[i+1:] {
			wantState(t, "another answer", first[i+1+j], second[i+1+j])
		}
	}
	kept := make([]api.State, len(second))
	for i, again := range answers(s) {
		wantState(t, "again", again, second[i])
		kept[i] = roomy(again)
	}
	spoil(s)
	for i, answer := range second {
		wantState(t, "answer "+strconv.Itoa(i)+", the argument spoilt", answer, kept[i])
	}
}

// R4: no two lists of an answer share memory, also where those of the argument do.
func TestNothingSharedInOneAnswer(t *testing.T) {
	shared := list(num)
	o := api.Shape{Fields: []api.Field{sure("p", shared...), perhaps("q", shared...)}, Proto: shared}
	s := with(vars(bind("b", shared...), bind("d", shared...)), loc(rec(1), o), loc(rec(2), o), loc(sum(1), o))
	for i := range answers(s) {
		for at := range atomsOf(answers(s)[i]) {
			got, want := answers(s)[i], answers(s)[i]
			l := atomsOf(got)[at]
			for k := range *l {
				(*l)[k] = rec(5)
			}
			_ = append(*l, rec(6))
			*l = *atomsOf(want)[at]
			wantState(t, "answer "+strconv.Itoa(i), got, want)
		}
		for at := range shapesOf(answers(s)[i]) {
			got, want := answers(s)[i], answers(s)[i]
			o := shapesOf(got)[at]
			for k := range o.Fields {
				o.Fields[k] = sure("spoilt")
			}
			*o = *shapesOf(want)[at]
			wantState(t, "answer "+strconv.Itoa(i), got, want)
		}
	}
}

// R4: a dead state's answer shares no memory with it, also behind its ends.
func TestNothingSharedOfDead(t *testing.T) {
	variables, objects := []api.Bind{bind("b", num)}, []api.Loc{loc(rec(0), of(null))}
	s := api.State{Dead: true, Vars: variables[:0], Locs: objects[:0]}
	for _, got := range []api.State{update.Write(s, list(dyn), "p", nil), update.Havoc(s, []string{"p"})} {
		spoil(got)
		wantState(t, "behind the argument", with(vars(variables...), objects...), with(vars(bind("b", num)), loc(rec(0), of(null))))
	}
}

// R4: the other arguments stay as they were, also behind their ends, and no answer is of their memory.
func TestNothingSharedWithTheOthers(t *testing.T) {
	v, w, names := list(rec(0), rec(0), rec(1), null)[:2], list(sum(1), num, num, null, dyn)[:4], []string{"q", "p", "q", "a"}[:3]
	keptV, keptW, keptNames := slices.Clone(v[:4]), slices.Clone(w[:5]), slices.Clone(names[:4])
	calls := []func() api.State{
		func() api.State { return update.Write(some(), v, "p", w) },
		func() api.State { return update.Write(some(), list(rec(0), sum(0)), "p", w) },
		func() api.State { return update.Write(some(), list(dyn), "p", w[1:3]) },
		func() api.State { return update.Write(some(), list(sum(0)), "p", w[2:3]) },
		func() api.State { return update.Havoc(some(), names) },
	}
	for _, call := range calls {
		got := call()
		want := roomy(got)
		spoil(call())
		wantState(t, "the answer, another one spoilt", got, want)
		spoil(got)
		wantBool(t, "the arguments stay", slices.Equal(v[:4], keptV) && slices.Equal(w[:5], keptW) && slices.Equal(names[:4], keptNames), true)
		wantState(t, "again", call(), want)
	}
	update.Strong(v)
	wantBool(t, "Strong leaves its argument", slices.Equal(v[:4], keptV), true)
	for _, call := range calls[:2] {
		got := call()
		want := roomy(got)
		spoiltW := slices.Clone(w)
		for i := range w {
			w[i] = fun(9)
		}
		wantState(t, "w spoilt", got, want)
		copy(w, spoiltW)
	}
}

// R5: empty lists and nil ones are the same.
func TestEmptyAndNilAreTheSame(t *testing.T) {
	empty := api.Shape{Fields: []api.Field{}, Proto: list()}
	for _, s := range []api.State{{}, {Vars: []api.Bind{}, Locs: []api.Loc{}}, {Vars: []api.Bind{bind("p")}[:0], Locs: []api.Loc{loc(rec(0), of())}[:0]}} {
		wantState(t, "Write", update.Write(s, list(dyn), "p", list()), api.State{})
		wantState(t, "Havoc", update.Havoc(s, []string{"p"}), api.State{})
	}
	s := with(vars(api.Bind{Name: "x", Vals: list()}), loc(rec(0), empty), loc(sum(0), of()))
	for _, none := range [][]api.Atom{nil, list()} {
		wantState(t, "Write to nobody", update.Write(s, none, "p", none), s)
		wantState(t, "Write nothing", update.Write(s, list(rec(0)), "p", none), with(vars(bind("x")), loc(rec(0), api.Shape{Fields: only(sure("p"))}), loc(sum(0), of())))
		wantState(t, "Write nothing, perhaps", update.Write(s, list(sum(0)), "p", none), with(vars(bind("x")), loc(rec(0), of()), loc(sum(0), api.Shape{Fields: only(perhaps("p"))})))
	}
	nameless := api.Shape{Fields: only(perhaps("", dyn))}
	wantState(t, "Havoc", update.Havoc(s, []string{""}), with(vars(bind("x")), loc(rec(0), nameless), loc(sum(0), nameless)))
}

// long is a state of so many variables and objects, of which the first has so many properties.
func long(many int) api.State {
	var s api.State
	for i := range many {
		s.Vars = append(s.Vars, bind(strconv.Itoa(2*many+i), rec(0), rec(i+1)))
		s.Locs = append(s.Locs, loc(rec(i), shape(sure("p", rec(0)))))
		s.Locs[0].Shape.Fields = append(s.Locs[0].Shape.Fields, sure("q"+strconv.Itoa(2*many+2*i), null))
	}
	return s
}

// R1: very many variables, objects, properties, atoms and names, in time.
func TestLong(t *testing.T) {
	const many = 1 << 16
	s := long(many)
	var v, w []api.Atom
	var names []string
	for i := range many {
		v, w = append(v, sum(i), rec(2*(many-i)), null), append(w, fun(many-i), fun(many-i))
		names = append(names, "q"+strconv.Itoa(4*many-2-i))
	}
	got := update.Write(s, v, "p", list(num))
	wantBool(t, "weakly", state.May(got) && len(got.Locs) == many, true)
	for i, l := range got.Locs[1:] {
		if p := l.Shape.Fields[0]; len(p.Vals) != 1+i%2 {
			t.Fatalf("weakly: %v is %v", l.Atom, p)
		}
	}
	got = update.Write(s, list(rec(1)), "p", w)
	wantBool(t, "strongly", state.May(got) && len(got.Locs[1].Shape.Fields[0].Vals) == many && len(got.Locs[2].Shape.Fields[0].Vals) == 1, true)
	got = update.Write(s, list(dyn), "p", slices.Repeat(list(num), many))
	wantState(t, "the last object, written again and again", locs(got.Locs[many-1]), locs(loc(rec(many-1), shape(sure("p", num, rec(0))))))
	got = update.Havoc(locs(s.Locs[:2]...), names)
	wantBool(t, "names", state.May(got) && len(got.Locs[0].Shape.Fields) == 1+3*many/2 && len(got.Locs[1].Shape.Fields) == 1+many, true)
	got = update.Havoc(s, []string{"p", "p"})
	wantState(t, "the last object", locs(got.Locs[many-1]), locs(loc(rec(many-1), shape(sure("p", rec(0), dyn)))))
	falling := locs(slices.Clone(s.Locs)...)
	slices.Reverse(falling.Locs)
	wantState(t, "falling", update.Havoc(falling, names), api.State{})
	wantBool(t, "Strong", !update.Strong(v) && update.Strong(slices.Repeat(list(rec(5)), many)), true)
}
