package object_test

import (
	"fmt"
	"math"
	"protean/api"
	"protean/object"
	"slices"
	"strconv"
	"testing"
)

// Some atoms that may be.
var (
	null = api.Atom{Kind: api.AtNull}
	num  = api.Atom{Kind: api.AtNum}
	dyn  = api.Atom{Kind: api.AtDyn}
)

func fun(n int) api.Atom { return api.Atom{Kind: api.AtFun, N: n} }

func rec(n int) api.Atom { return api.Atom{Kind: api.AtRec, N: n} }

func sum(n int) api.Atom { return api.Atom{Kind: api.AtSum, N: n} }

func list(l ...api.Atom) []api.Atom { return l }

func sure(name string, v ...api.Atom) api.Field { return api.Field{Name: name, Sure: true, Vals: v} }

func perhaps(name string, v ...api.Atom) api.Field { return api.Field{Name: name, Vals: v} }

// shape is one whose prototype is told by no atom, of these properties.
func shape(fields ...api.Field) api.Shape { return api.Shape{Fields: fields} }

// of is one whose prototype is told by these atoms, of no properties.
func of(proto ...api.Atom) api.Shape { return api.Shape{Proto: proto} }

// with is s with a prototype that is told by these atoms.
func with(s api.Shape, proto ...api.Atom) api.Shape {
	s.Proto = proto
	return s
}

// wrongLists are lists of atoms that may not be.
func wrongLists() [][]api.Atom {
	return [][]api.Atom{
		list(num, null), list(num, num), list(sum(0), rec(0)), list(rec(2), rec(1)), list(null, num, null), list(dyn, dyn),
		list(api.Atom{Kind: -1}), list(api.Atom{Kind: api.AtKinds}), list(api.Atom{Kind: api.AtNum, N: 1}), list(rec(-1)), list(fun(math.MinInt)),
		list(null, api.Atom{Kind: math.MaxInt}),
	}
}

// wrong are shapes that may not be, by their names, by their Vals and by their Proto, and by what is behind others that are right.
func wrong() []api.Shape {
	l := []api.Shape{
		shape(sure("q"), sure("p")), shape(sure("p"), sure("p")), shape(perhaps("p", num), sure("p", num)), shape(sure("p"), sure("q"), sure("p")),
		shape(sure("p"), sure("q"), sure("q")), shape(sure("p"), sure("")), shape(sure(""), sure("")), shape(sure("b"), sure("ab")), shape(sure("a"), sure("B")),
		shape(sure("10"), sure("9"), sure("11")), shape(sure("\xff"), sure("é")), with(shape(sure("q", num), sure("p", num)), null),
	}
	for _, v := range wrongLists() {
		l = append(l, of(v...), shape(sure("p", v...)), shape(perhaps("p", v...)), shape(sure("p", num), sure("q", v...)),
			with(shape(sure("p", v...)), num), with(shape(sure("p", num)), v...))
	}
	return l
}

// right are shapes that may be.
func right() []api.Shape {
	return []api.Shape{
		{}, {Fields: []api.Field{}, Proto: list()}, of(null), of(rec(0), sum(0), dyn),
		shape(sure("p")), shape(perhaps("p")), shape(sure("")), shape(sure(""), perhaps("\x00", num)), shape(sure("p", null, num)),
		shape(sure("B"), sure("a")), shape(sure("a"), sure("ab"), sure("b")), shape(sure("10"), sure("9")), shape(perhaps("é"), sure("\xff")),
		with(shape(sure("p", num), perhaps("q", null, rec(1), sum(1)), sure("r", dyn)), null, rec(1)),
		shape(sure("p", num), perhaps("p0", num), sure("p1", num)),
	}
}

// cut is what is told of a value, which may be long.
func cut(x any) string {
	return fmt.Sprintf("%.300s", fmt.Sprint(x))
}

// wantShape holds two shapes together; empty lists and nil ones are the same.
func wantShape(t *testing.T, what string, got, want api.Shape) {
	t.Helper()
	if !same(got, want) {
		t.Errorf("%s: %s; want %s", what, cut(got), cut(want))
	}
}

func same(a, b api.Shape) bool {
	return slices.Equal(a.Proto, b.Proto) && slices.EqualFunc(a.Fields, b.Fields, sameField)
}

func sameField(a, b api.Field) bool {
	return a.Name == b.Name && a.Sure == b.Sure && slices.Equal(a.Vals, b.Vals)
}

func wantField(t *testing.T, what string, s api.Shape, name string, want api.Field, there bool) {
	t.Helper()
	if got, ok := object.Get(s, name); ok != there || !sameField(got, want) {
		t.Errorf("%s: Get %q %s %v; want %s %v", what, name, cut(got), ok, cut(want), there)
	}
}

func wantBool(t *testing.T, what string, got, want bool) {
	t.Helper()
	if got != want {
		t.Errorf("%s: %v; want %v", what, got, want)
	}
}

// P7.2, P7.3: the chapter's examples.
func TestExamples(t *testing.T) {
	p := shape(sure("p", num))
	wantShape(t, "Join", object.Join(p, shape()), shape(perhaps("p", num)))
	wantShape(t, "Join", object.Join(shape(), p), shape(perhaps("p", num)))
	wantShape(t, "Weak", object.Weak(p, "p", list(null)), shape(sure("p", null, num)))
}

// P7.1: May, of shapes that may be, and that may not be.
func TestMay(t *testing.T) {
	for i, s := range right() {
		wantBool(t, "right "+strconv.Itoa(i), object.May(s), true)
	}
	for i, s := range wrong() {
		wantBool(t, "wrong "+strconv.Itoa(i), object.May(s), false)
	}
}

// P7.1: Get, of properties that are sure, that are perhaps there, and that are not there.
func TestGet(t *testing.T) {
	s := with(shape(sure("p", num, rec(1)), perhaps("q", null), perhaps("r"), sure("s")), dyn)
	wantField(t, "sure", s, "p", sure("p", num, rec(1)), true)
	wantField(t, "perhaps", s, "q", perhaps("q", null), true)
	wantField(t, "perhaps, nothing", s, "r", perhaps("r"), true)
	wantField(t, "sure, nothing", s, "s", sure("s"), true)
	for _, name := range []string{"", "a", "P", "p ", "pp", "p\x00", "z", "\xff"} {
		wantField(t, "not there", s, name, api.Field{}, false)
		wantField(t, "zero", api.Shape{}, name, api.Field{}, false)
	}
	wantField(t, "empty name", shape(sure("", num), sure("p")), "", sure("", num), true)
}

// P7.1: Get, of shapes that may not be: the first one of the name, as it stands there.
func TestGetOfWhatMayNotBe(t *testing.T) {
	twice := shape(sure("q", num, null, num), perhaps("p", dyn), sure("p", null), sure("q", null), sure("a"))
	wantField(t, "twice", twice, "p", perhaps("p", dyn), true)
	wantField(t, "twice", twice, "q", sure("q", num, null, num), true)
	wantField(t, "falling", twice, "a", sure("a"), true)
	wantField(t, "not there", twice, "b", api.Field{}, false)
	for _, v := range wrongLists() {
		wantField(t, "Vals", shape(sure("p", v...)), "p", sure("p", v...), true)
		wantField(t, "Proto", with(shape(perhaps("p", num)), v...), "p", perhaps("p", num), true)
	}
	wantField(t, "p p q", shape(sure("p", null), perhaps("p", num), sure("q")), "p", sure("p", null), true)
	wantField(t, "p p p", shape(sure("p", null), perhaps("p", num), sure("p", dyn)), "p", sure("p", null), true)
}

// P7.2: Join, of each way in which a property is in the one, and in the other one.
func TestJoin(t *testing.T) {
	for _, c := range []struct{ a, b, want api.Shape }{
		{shape(), shape(), shape()},
		{shape(sure("p", num)), shape(sure("p", num)), shape(sure("p", num))},
		{shape(sure("p", num)), shape(sure("p", null)), shape(sure("p", null, num))},
		{shape(sure("p", num)), shape(perhaps("p", null)), shape(perhaps("p", null, num))},
		{shape(perhaps("p", num)), shape(perhaps("p", null)), shape(perhaps("p", null, num))},
		{shape(perhaps("p", num)), shape(), shape(perhaps("p", num))},
		{shape(sure("p")), shape(), shape(perhaps("p"))},
		{shape(sure("p")), shape(sure("p")), shape(sure("p"))},
		{shape(sure("p")), shape(sure("p", num)), shape(sure("p", num))},
		{shape(sure("p", num)), shape(sure("q", null)), shape(perhaps("p", num), perhaps("q", null))},
		{shape(sure("a", num), sure("c", num), sure("e", num)), shape(sure("b", num), sure("c", null), sure("d", num)),
			shape(perhaps("a", num), perhaps("b", num), sure("c", null, num), perhaps("d", num), perhaps("e", num))},
		{shape(sure("x", num), sure("y", num), sure("z", num)), shape(sure("a", num)), shape(perhaps("a", num), perhaps("x", num), perhaps("y", num), perhaps("z", num))},
		{shape(sure("")), shape(sure("", num), sure("a")), shape(sure("", num), perhaps("a"))},
		{shape(sure("10"), sure("9")), shape(sure("1"), sure("\xff")), shape(perhaps("1"), perhaps("10"), perhaps("9"), perhaps("\xff"))},
		{of(null), of(num), of(null, num)},
		{of(null, rec(1)), of(), of(null, rec(1))},
		{of(sum(1), dyn), of(null, sum(1)), of(null, sum(1), dyn)},
		{shape(sure("p", rec(1), dyn)), shape(sure("p", num, sum(1))), shape(sure("p", num, rec(1), sum(1), dyn))},
		{with(shape(sure("p", num)), null), with(shape(sure("p", num)), rec(0)), with(shape(sure("p", num)), null, rec(0))},
	} {
		wantShape(t, "Join", object.Join(c.a, c.b), c.want)
		wantShape(t, "Join, turned", object.Join(c.b, c.a), c.want)
	}
}

// P7.2: Within, by Vals, by what is sure, by what is there, by Proto.
func TestWithin(t *testing.T) {
	for _, c := range []struct {
		a, b   api.Shape
		ab, ba bool
	}{
		{shape(), shape(), true, true},
		{shape(sure("p", num)), shape(sure("p", num)), true, true},
		{shape(perhaps("p", num)), shape(perhaps("p", num)), true, true},
		{shape(sure("p", num)), shape(perhaps("p", num)), true, false},
		{shape(sure("p", num)), shape(sure("p", null, num)), true, false},
		{shape(sure("p", num)), shape(sure("p", null)), false, false},
		{shape(sure("p", num)), shape(sure("p", dyn)), false, false},
		{shape(sure("p")), shape(sure("p", dyn)), true, false},
		{shape(sure("p")), shape(perhaps("p")), true, false},
		{shape(), shape(perhaps("p")), true, false},
		{shape(), shape(perhaps("p", num)), true, false},
		{shape(), shape(sure("p")), false, false},
		{shape(), shape(sure("p", num)), false, false},
		{shape(sure("p", num)), shape(sure("q", num)), false, false},
		{shape(perhaps("p", num)), shape(perhaps("q", num)), false, false},
		{shape(perhaps("p", num)), shape(sure("p", null, num)), false, false},
		{shape(sure("p", num), sure("q", num)), shape(sure("p", num), perhaps("q", num)), true, false},
		{shape(sure("p", num)), shape(sure("p", num), perhaps("q", num)), true, false},
		{shape(sure("q", num)), shape(perhaps("p", num), sure("q", num)), true, false},
		{shape(sure("p", num)), shape(sure("p", num), sure("q", num)), false, false},
		{shape(sure("p", num), sure("r", num)), shape(perhaps("o"), sure("p", num), perhaps("q"), perhaps("r", num), perhaps("s")), true, false},
		{shape(sure("p", num), sure("r", num)), shape(perhaps("o"), sure("p", num), sure("q"), perhaps("r", num), perhaps("s")), false, false},
		{of(null), of(null), true, true},
		{of(), of(null), true, false},
		{of(null), of(num), false, false},
		{of(rec(1)), of(rec(1), sum(1)), true, false},
		{of(rec(1)), of(sum(1)), false, false},
		{with(shape(sure("p", num)), null), with(shape(perhaps("p", num)), null, num), true, false},
		{with(shape(sure("p", num)), null), with(shape(perhaps("p", num)), num), false, false},
		{with(shape(sure("p", num)), null, num), with(shape(perhaps("p", num)), null), false, false},
	} {
		wantBool(t, "a within b", object.Within(c.a, c.b), c.ab)
		wantBool(t, "b within a", object.Within(c.b, c.a), c.ba)
		if t.Failed() {
			t.Fatalf("a %v, b %v", c.a, c.b)
		}
	}
}

// P7.3: Strong, of properties that are sure, perhaps there, and not there; the others stay.
func TestStrong(t *testing.T) {
	s := with(shape(sure("b", num), perhaps("d", null, num)), null, rec(1))
	for _, c := range []struct {
		name string
		v    []api.Atom
		want []api.Field
	}{
		{"b", list(null), []api.Field{sure("b", null), perhaps("d", null, num)}},
		{"b", list(num), []api.Field{sure("b", num), perhaps("d", null, num)}},
		{"d", list(rec(2)), []api.Field{sure("b", num), sure("d", rec(2))}},
		{"d", list(null, num), []api.Field{sure("b", num), sure("d", null, num)}},
		{"", list(null), []api.Field{sure("", null), sure("b", num), perhaps("d", null, num)}},
		{"a", list(null), []api.Field{sure("a", null), sure("b", num), perhaps("d", null, num)}},
		{"bb", list(null), []api.Field{sure("b", num), sure("bb", null), perhaps("d", null, num)}},
		{"e", list(null), []api.Field{sure("b", num), perhaps("d", null, num), sure("e", null)}},
		{"\xff\x00", list(dyn), []api.Field{sure("b", num), perhaps("d", null, num), sure("\xff\x00", dyn)}},
		{"b", nil, []api.Field{sure("b"), perhaps("d", null, num)}},
		{"e", list(), []api.Field{sure("b", num), perhaps("d", null, num), sure("e")}},
		{"b", list(sum(1), null, sum(1)), []api.Field{sure("b", null, sum(1)), perhaps("d", null, num)}},
		{"b", list(rec(-1), num, api.Atom{Kind: 9}, api.Atom{Kind: api.AtNull, N: 1}), []api.Field{sure("b", num), perhaps("d", null, num)}},
		{"e", list(rec(-1)), []api.Field{sure("b", num), perhaps("d", null, num), sure("e")}},
	} {
		wantShape(t, "Strong "+c.name, object.Strong(s, c.name, c.v), with(shape(c.want...), null, rec(1)))
	}
	wantShape(t, "zero", object.Strong(api.Shape{}, "p", list(num)), shape(sure("p", num)))
}

// P7.3: Weak, of properties that are sure, perhaps there, and not there; the others stay.
func TestWeak(t *testing.T) {
	s := with(shape(sure("b", num), perhaps("d", null, num)), null, rec(1))
	for _, c := range []struct {
		name string
		v    []api.Atom
		want []api.Field
	}{
		{"b", list(null), []api.Field{sure("b", null, num), perhaps("d", null, num)}},
		{"b", list(num), []api.Field{sure("b", num), perhaps("d", null, num)}},
		{"d", list(rec(2)), []api.Field{sure("b", num), perhaps("d", null, num, rec(2))}},
		{"d", list(num), []api.Field{sure("b", num), perhaps("d", null, num)}},
		{"", list(null), []api.Field{perhaps("", null), sure("b", num), perhaps("d", null, num)}},
		{"a", list(null), []api.Field{perhaps("a", null), sure("b", num), perhaps("d", null, num)}},
		{"bb", list(null), []api.Field{sure("b", num), perhaps("bb", null), perhaps("d", null, num)}},
		{"e", list(null), []api.Field{sure("b", num), perhaps("d", null, num), perhaps("e", null)}},
		{"b", nil, []api.Field{sure("b", num), perhaps("d", null, num)}},
		{"d", list(), []api.Field{sure("b", num), perhaps("d", null, num)}},
		{"e", list(), []api.Field{sure("b", num), perhaps("d", null, num), perhaps("e")}},
		{"b", list(sum(1), null, sum(1)), []api.Field{sure("b", null, num, sum(1)), perhaps("d", null, num)}},
		{"b", list(rec(-1), dyn, api.Atom{Kind: 9}, api.Atom{Kind: api.AtNull, N: 1}), []api.Field{sure("b", num, dyn), perhaps("d", null, num)}},
		{"e", list(rec(-1)), []api.Field{sure("b", num), perhaps("d", null, num), perhaps("e")}},
	} {
		wantShape(t, "Weak "+c.name, object.Weak(s, c.name, c.v), with(shape(c.want...), null, rec(1)))
	}
	wantShape(t, "zero", object.Weak(api.Shape{}, "p", list(num)), shape(perhaps("p", num)))
}

// P7.3: Rename, of Vals and of Proto, by sites that are there and that are not.
func TestRename(t *testing.T) {
	s := with(shape(sure("p", rec(1), sum(1)), perhaps("q", null, fun(1), rec(0), rec(1), rec(2), sum(0)), sure("r")), rec(1), dyn)
	for _, c := range []struct {
		site int
		want api.Shape
	}{
		{1, with(shape(sure("p", sum(1)), perhaps("q", null, fun(1), rec(0), rec(2), sum(0), sum(1)), sure("r")), sum(1), dyn)},
		{0, with(shape(sure("p", rec(1), sum(1)), perhaps("q", null, fun(1), rec(1), rec(2), sum(0)), sure("r")), rec(1), dyn)},
		{2, with(shape(sure("p", rec(1), sum(1)), perhaps("q", null, fun(1), rec(0), rec(1), sum(0), sum(2)), sure("r")), rec(1), dyn)},
		{3, s}, {-1, s}, {math.MinInt, s}, {math.MaxInt, s},
	} {
		wantShape(t, "Rename by "+strconv.Itoa(c.site), object.Rename(s, c.site), c.want)
	}
	wantShape(t, "zero", object.Rename(api.Shape{}, 0), api.Shape{})
	wantShape(t, "the greatest", object.Rename(shape(sure("p", rec(math.MaxInt))), math.MaxInt), shape(sure("p", sum(math.MaxInt))))
}

// P7.2, P7.3: of shapes that may not be there is the zero Shape, and nothing within another.
func TestWhatMayNotBe(t *testing.T) {
	for i, s := range wrong() {
		what := "wrong " + strconv.Itoa(i)
		wantShape(t, what+" renamed", object.Rename(s, 0), api.Shape{})
		wantShape(t, what+" with itself", object.Join(s, s), api.Shape{})
		wantBool(t, what+" within itself", object.Within(s, s), false)
		for _, name := range []string{"", "p", "q", "z"} {
			wantShape(t, what+" Strong", object.Strong(s, name, list(num)), api.Shape{})
			wantShape(t, what+" Weak", object.Weak(s, name, list(num)), api.Shape{})
		}
		for _, r := range right() {
			wantShape(t, what+" left", object.Join(s, r), api.Shape{})
			wantShape(t, what+" right", object.Join(r, s), api.Shape{})
			wantBool(t, what+" within", object.Within(s, r), false)
			wantBool(t, "within "+what, object.Within(r, s), false)
		}
	}
	// The one by the property's name that is asked for, and that is written, too, though the other one's list would go with it.
	wantShape(t, "its list is written over", object.Strong(shape(sure("p", num, num)), "p", list(num)), api.Shape{})
}

// answers are all shapes that the calls answer of s.
func answers(s api.Shape) []api.Shape {
	p, _ := object.Get(s, "p")
	q, _ := object.Get(s, "q")
	v := list(num, dyn)
	return []api.Shape{
		object.Join(s, s), object.Join(s, api.Shape{}), object.Join(api.Shape{}, s), object.Rename(s, 0), object.Rename(s, 9),
		object.Strong(s, "p", v), object.Strong(s, "a", v), object.Strong(s, "z", v),
		object.Weak(s, "p", v), object.Weak(s, "a", v), object.Weak(s, "z", v), object.Weak(s, "q", nil), shape(p, q),
	}
}

// spoil writes into all of a shape's memory, and behind it.
func spoil(s api.Shape) {
	wrongAtom := api.Atom{Kind: 77, N: 77}
	lists := [][]api.Atom{s.Proto}
	for i := range s.Fields {
		lists = append(lists, s.Fields[i].Vals)
		s.Fields[i] = sure("spoilt", wrongAtom)
	}
	_ = append(s.Fields, sure("spoilt"))
	for _, l := range lists {
		for i := range l {
			l[i] = wrongAtom
		}
		_ = append(l, wrongAtom)
	}
}

// roomy is s in memory that has more behind each list.
func roomy(s api.Shape) api.Shape {
	room := api.Shape{Fields: slices.Grow(slices.Clone(s.Fields), 3), Proto: slices.Grow(slices.Clone(s.Proto), 3)}
	for i, f := range room.Fields {
		room.Fields[i].Vals = slices.Grow(slices.Clone(f.Vals), 3)
	}
	return room
}

// stretched is s with what stands behind each list in its memory.
func stretched(s api.Shape) api.Shape {
	fields := slices.Clone(s.Fields[:len(s.Fields)+1])
	for i, f := range s.Fields {
		fields[i].Vals = f.Vals[:len(f.Vals)+1]
	}
	return api.Shape{Fields: fields, Proto: s.Proto[:len(s.Proto)+1]}
}

// R4: arguments stay as they were, also behind their ends, and an answer's memory is its own.
func TestNothingShared(t *testing.T) {
	fixed := with(shape(sure("p", num, rec(0)), perhaps("q", null)), null, rec(0))
	s := roomy(fixed)
	behind := roomy(stretched(s))
	first := answers(s)
	second := answers(s)
	object.May(s)
	object.Within(s, s)
	wantShape(t, "the argument", s, fixed)
	wantShape(t, "behind the argument", stretched(s), behind)
	for i, answer := range first {
		spoil(answer)
		wantShape(t, "the argument, an answer spoilt", s, fixed)
		for j := range second[i+1:] {
			wantShape(t, "another answer", first[i+1+j], second[i+1+j])
		}
	}
	for i, again := range answers(s) {
		wantShape(t, "again", again, second[i])
	}
	kept := make([]api.Shape, len(second))
	for i, answer := range second {
		kept[i] = roomy(answer)
	}
	spoil(s)
	for i, answer := range second {
		wantShape(t, "the argument spoilt", answer, kept[i])
	}
}

// R4: no two lists of an answer share memory, and none shares it with v.
func TestNothingSharedInOneAnswer(t *testing.T) {
	v := list(num, dyn, null)[:2]
	shared := list(num)
	s := with(shape(sure("p", shared...), perhaps("q", shared...), sure("r", shared...)), shared...)
	for i, got := range answers(s) {
		want := roomy(got)
		for j := range got.Fields {
			vals := got.Fields[j].Vals
			for k := range vals {
				vals[k] = rec(5)
			}
			_ = append(vals, rec(6))
			got.Fields[j].Vals = want.Fields[j].Vals
		}
		wantShape(t, "answer "+strconv.Itoa(i), got, want)
	}
	for _, got := range []api.Shape{object.Strong(s, "p", v), object.Weak(api.Shape{}, "p", v)} {
		spoil(got)
		wantBool(t, "v", slices.Equal(v[:3], list(num, dyn, null)), true)
	}
}

// R5: empty lists and nil ones are the same.
func TestEmptyAndNilAreTheSame(t *testing.T) {
	none := []api.Shape{{}, {Fields: []api.Field{}}, {Proto: list()}, {Fields: []api.Field{sure("p")}[:0], Proto: list(num)[:0]}}
	fields := []api.Shape{shape(sure("p")), shape(api.Field{Name: "p", Sure: true, Vals: list()}), shape(sure("p", list(num)[:0]...))}
	for _, a := range none {
		for _, b := range none {
			wantShape(t, "Join", object.Join(a, b), api.Shape{})
			wantBool(t, "Within", object.Within(a, b), true)
		}
		wantBool(t, "May", object.May(a), true)
		wantShape(t, "Strong", object.Strong(a, "p", nil), object.Strong(a, "p", list()))
		wantShape(t, "Weak", object.Weak(a, "p", nil), object.Weak(a, "p", list()))
	}
	for _, a := range fields {
		for _, b := range fields {
			wantShape(t, "Join", object.Join(a, b), shape(sure("p")))
			wantBool(t, "Within", object.Within(a, b), true)
		}
		wantField(t, "Get", a, "p", sure("p"), true)
	}
}

// R1: very many properties, and very many atoms, in time.
func TestLong(t *testing.T) {
	const many = 1 << 16
	var even, odd, falling api.Shape
	var mixed []api.Atom
	for i := range many {
		even.Fields = append(even.Fields, sure(strconv.Itoa(2*many+2*i), num))
		odd.Fields = append(odd.Fields, sure(strconv.Itoa(2*many+2*i+1), rec(0)))
		even.Proto = append(even.Proto, rec(i))
		falling.Fields = append(falling.Fields, sure(strconv.Itoa(2*many-i)))
		mixed = append(mixed, rec(many-1-i), rec(i))
	}
	wantBool(t, "May", object.May(even) && object.May(odd), true)
	wantBool(t, "May, falling", object.May(falling), false)
	both := object.Join(even, odd)
	wantBool(t, "Join", object.May(both) && len(both.Fields) == 2*many && !both.Fields[0].Sure && len(both.Proto) == many, true)
	wantBool(t, "Within", object.Within(even, both) && object.Within(odd, both), true)
	wantBool(t, "not Within", object.Within(both, even) || object.Within(even, odd), false)
	wantShape(t, "Join, falling", object.Join(even, falling), api.Shape{})
	name := strconv.Itoa(4*many - 2)
	wantField(t, "Get", even, name, sure(name, num), true)
	wantField(t, "Strong", object.Strong(even, name, mixed), name, sure(name, even.Proto...), true)
	wantField(t, "Weak", object.Weak(even, "3", mixed), "3", perhaps("3", even.Proto...), true)
	wantField(t, "Rename", object.Rename(odd, 0), strconv.Itoa(4*many-1), sure(strconv.Itoa(4*many-1), sum(0)), true)
	wantField(t, "falling", falling, strconv.Itoa(many+1), sure(strconv.Itoa(many+1)), true)
}
