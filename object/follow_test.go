package object_test

import (
	"protean/api"
	"protean/atoms"
	"protean/object"
	"slices"
	"testing"
)

// mayWords: a shape may be, by the chapter's words.
func mayWords(s api.Shape) bool {
	for i, f := range s.Fields {
		for _, g := range s.Fields[i+1:] {
			if g.Name <= f.Name {
				return false
			}
		}
		if !atoms.May(f.Vals) {
			return false
		}
	}
	return atoms.May(s.Proto)
}

// getWords is P7.1's Get, word by word.
func getWords(s api.Shape, name string) (api.Field, bool) {
	i := slices.IndexFunc(s.Fields, func(f api.Field) bool { return f.Name == name })
	if i < 0 {
		return api.Field{}, false
	}
	return s.Fields[i], true
}

// built is the shape of these properties, told by their names, in any order.
func built(fields map[string]api.Field, proto []api.Atom) api.Shape {
	s := api.Shape{Proto: proto}
	var all []string
	for name := range fields {
		all = append(all, name)
	}
	slices.Sort(all)
	for _, name := range all {
		s.Fields = append(s.Fields, fields[name])
	}
	return s
}

// byNames is the properties of a shape by their names.
func byNames(s api.Shape) map[string]api.Field {
	fields := map[string]api.Field{}
	for _, f := range s.Fields {
		fields[f.Name] = f
	}
	return fields
}

// joinWords is P7.2's Join, word by word.
func joinWords(a, b api.Shape) api.Shape {
	if !mayWords(a) || !mayWords(b) {
		return api.Shape{}
	}
	left, right := byNames(a), byNames(b)
	both := byNames(a)
	for name, g := range right {
		both[name] = g
	}
	for name := range both {
		f, inA := left[name]
		g, inB := right[name]
		both[name] = api.Field{Name: name, Sure: inA && inB && f.Sure && g.Sure, Vals: atoms.Norm(slices.Concat(f.Vals, g.Vals))}
	}
	return built(both, atoms.Norm(slices.Concat(a.Proto, b.Proto)))
}

// withinWords is P7.2's Within, word by word.
func withinWords(a, b api.Shape) bool {
	if !mayWords(a) || !mayWords(b) {
		return false
	}
	is := atoms.Within(a.Proto, b.Proto)
	left, right := byNames(a), byNames(b)
	for name, f := range left {
		g, there := right[name]
		is = is && there && atoms.Within(f.Vals, g.Vals) && (f.Sure || !g.Sure)
	}
	for name, g := range right {
		_, there := left[name]
		is = is && (there || !g.Sure)
	}
	return is
}

// strongWords is P7.3's Strong, word by word.
func strongWords(s api.Shape, name string, v []api.Atom) api.Shape {
	if !mayWords(s) {
		return api.Shape{}
	}
	fields := byNames(s)
	fields[name] = sure(name, atoms.Norm(v)...)
	return built(fields, s.Proto)
}

// weakWords is P7.3's Weak, word by word.
func weakWords(s api.Shape, name string, v []api.Atom) api.Shape {
	if !mayWords(s) {
		return api.Shape{}
	}
	fields := byNames(s)
	was := fields[name]
	fields[name] = api.Field{Name: name, Sure: was.Sure, Vals: atoms.Norm(slices.Concat(was.Vals, v))}
	return built(fields, s.Proto)
}

// renameWords is P7.3's Rename, word by word.
func renameWords(s api.Shape, site int) api.Shape {
	if !mayWords(s) {
		return api.Shape{}
	}
	fields := byNames(s)
	for name, f := range fields {
		f.Vals = atoms.Rename(f.Vals, site)
		fields[name] = f
	}
	return built(fields, atoms.Rename(s.Proto, site))
}

// names are those that shapes are asked for, around those that they have.
func names() []string { return []string{"", "p", "p\x00", "q", "z"} }

// values are lists that are written: some that may be, some that may not.
func values() [][]api.Atom {
	return [][]api.Atom{nil, list(null), list(rec(0), null), list(sum(0), sum(0)), list(rec(-1)), list(dyn, api.Atom{Kind: 9}, null, dyn)}
}

// wantWords holds the calls of one shape against the chapter.
func wantWords(t *testing.T, s api.Shape) {
	t.Helper()
	if got, w := object.May(s), mayWords(s); got != w {
		t.Fatalf("%v: May %v; want %v", s, got, w)
	}
	for site := -1; site < 3; site++ {
		if got, w := object.Rename(s, site), renameWords(s, site); !same(got, w) || !object.May(got) {
			t.Fatalf("%v: Rename by %v: %v; want %v", s, site, got, w)
		}
	}
	for _, name := range names() {
		f, ok := object.Get(s, name)
		if w, is := getWords(s, name); ok != is || !sameField(f, w) {
			t.Fatalf("%v: Get %q: %v %v; want %v %v", s, name, f, ok, w, is)
		}
		for _, v := range values() {
			wantWritten(t, s, name, v)
		}
	}
}

// wantWritten holds what is written against the chapter, and against P7.4.
func wantWritten(t *testing.T, s api.Shape, name string, v []api.Atom) {
	t.Helper()
	strong, weak := object.Strong(s, name, v), object.Weak(s, name, v)
	if w := strongWords(s, name, v); !same(strong, w) || !object.May(strong) {
		t.Fatalf("%v: Strong %q %v: %v; want %v", s, name, v, strong, w)
	}
	if w := weakWords(s, name, v); !same(weak, w) || !object.May(weak) {
		t.Fatalf("%v: Weak %q %v: %v; want %v", s, name, v, weak, w)
	}
	if _, there := object.Get(s, name); !there || !object.May(s) {
		return
	}
	if !object.Within(s, weak) || !object.Within(strong, weak) {
		t.Fatalf("%v: Weak %q %v: %v; it, or what is written strongly, %v, is not within", s, name, v, weak, strong)
	}
}

// wantBoth holds the calls of two shapes against the chapter, and against P7.4.
func wantBoth(t *testing.T, a, b api.Shape) {
	t.Helper()
	if got, w := object.Within(a, b), withinWords(a, b); got != w {
		t.Fatalf("%v within %v: %v; want %v", a, b, got, w)
	}
	join := object.Join(a, b)
	if w := joinWords(a, b); !same(join, w) || !object.May(join) {
		t.Fatalf("%v, %v: Join %v; want %v", a, b, join, w)
	}
	if got := object.Join(b, a); !same(got, join) {
		t.Fatalf("%v, %v: Join %v, in the other order %v", a, b, join, got)
	}
	if !object.May(a) || !object.May(b) {
		return
	}
	for _, s := range []api.Shape{a, b, join} {
		if !object.Within(s, join) {
			t.Fatalf("%v, %v: Join %v; %v is not within", a, b, join, s)
		}
		if got := object.Join(join, s); !same(got, join) {
			t.Fatalf("%v, %v: Join %v; of %v, taken again, comes %v", a, b, join, s, got)
		}
	}
	if each := object.Within(a, b) && object.Within(b, a); each != same(a, b) {
		t.Fatalf("%v, %v: within each other: %v", a, b, each)
	}
	if in := object.Within(a, b); in != same(join, b) {
		t.Fatalf("%v within %v: %v; Join %v", a, b, in, join)
	}
}

// subsets is all lists that may be, of some of the atoms, which rise.
func subsets(of []api.Atom) [][]api.Atom {
	var all [][]api.Atom
	for bits := range 1 << len(of) {
		var l []api.Atom
		for i, x := range of {
			if bits>>i&1 == 1 {
				l = append(l, x)
			}
		}
		all = append(all, l)
	}
	return all
}

// shapes is all shapes that may be, of some of the names, which rise, of these Vals and of these Protos.
func shapes(of []string, vals, protos [][]api.Atom) []api.Shape {
	rows := [][]api.Field{nil}
	for _, name := range of {
		for _, row := range slices.Clone(rows) {
			for _, v := range vals {
				rows = append(rows, append(slices.Clone(row), sure(name, v...)), append(slices.Clone(row), perhaps(name, v...)))
			}
		}
	}
	var all []api.Shape
	for _, row := range rows {
		for _, proto := range protos {
			all = append(all, api.Shape{Fields: row, Proto: proto})
		}
	}
	return all
}

// P7.1, P7.2, P7.3: all short shapes, with names in any order and that stand twice, with lists that may be and that may not.
func TestAllShapes(t *testing.T) {
	var fields []api.Field
	for _, name := range []string{"", "p", "q"} {
		for _, v := range [][]api.Atom{nil, list(null, rec(0)), list(null, null)} {
			fields = append(fields, sure(name, v...), perhaps(name, v...))
		}
	}
	rows := [][]api.Field{nil}
	for at := 0; at < len(rows); at++ {
		for _, proto := range [][]api.Atom{nil, list(rec(0), rec(1)), list(rec(1), rec(0))} {
			wantWords(t, api.Shape{Fields: rows[at], Proto: proto})
		}
		if len(rows[at]) == 3 {
			continue
		}
		for _, f := range fields {
			rows = append(rows, append(slices.Clone(rows[at]), f))
		}
	}
}

// P7.2, P7.4: all pairs of small shapes that may be.
func TestAllPairs(t *testing.T) {
	all := shapes([]string{"p", "q"}, subsets(list(null, rec(0))), subsets(list(null, rec(0))))
	for _, a := range all {
		wantWords(t, a)
		for _, b := range all {
			wantBoth(t, a, b)
		}
	}
}

// P7.2, P7.4: all pairs of shapes of three names.
func TestAllPairsOfMoreNames(t *testing.T) {
	all := shapes([]string{"", "p", "q"}, [][]api.Atom{nil, list(num)}, [][]api.Atom{list(null)})
	for _, a := range all {
		for _, b := range all {
			wantBoth(t, a, b)
		}
	}
}

// P7.2: all pairs of shapes of which one may not be, or both.
func TestPairsThatMayNotBe(t *testing.T) {
	all := append(wrong(), right()...)
	for _, a := range all {
		wantWords(t, a)
		for _, b := range all {
			wantBoth(t, a, b)
		}
	}
}

// P7.4: a join is within whatever else has both within it.
func TestJoinIsLeast(t *testing.T) {
	all := shapes([]string{"p", "q"}, [][]api.Atom{nil, list(sum(0))}, [][]api.Atom{nil, list(null)})
	all = append(all, shapes([]string{"p"}, subsets(list(null, rec(0))), [][]api.Atom{nil})...)
	for _, a := range all {
		for _, b := range all {
			join := object.Join(a, b)
			for _, c := range all {
				if both := object.Within(a, c) && object.Within(b, c); both != object.Within(join, c) {
					t.Fatalf("%v, %v, both within %v: %v, but not their Join %v", a, b, c, both, join)
				}
			}
		}
	}
}

// P7.4: of three shapes the join is the same, whichever two are taken first.
func TestJoinInAnyOrder(t *testing.T) {
	all := shapes([]string{"p", "q"}, [][]api.Atom{list(rec(0)), list(null)}, [][]api.Atom{nil, list(dyn)})
	for _, a := range all {
		for _, b := range all {
			for _, c := range all {
				left, right := object.Join(object.Join(a, b), c), object.Join(a, object.Join(c, b))
				if !same(left, right) {
					t.Fatalf("%v, %v, %v: %v and %v", a, b, c, left, right)
				}
			}
		}
	}
}

// What is within stays within when the same is written to both, and when both are renamed.
func TestWrittenKeepsWithin(t *testing.T) {
	all := shapes([]string{"p", "q"}, subsets(list(rec(0), sum(0))), [][]api.Atom{nil, list(rec(0))})
	for _, a := range all {
		for _, b := range all {
			if !object.Within(a, b) {
				continue
			}
			kept := object.Within(object.Rename(a, 0), object.Rename(b, 0))
			for _, name := range []string{"p", "r"} {
				kept = kept && object.Within(object.Strong(a, name, list(null)), object.Strong(b, name, list(null)))
				kept = kept && object.Within(object.Weak(a, name, list(null)), object.Weak(b, name, list(null, num)))
			}
			if !kept {
				t.Fatalf("%v within %v, but not written, or renamed", a, b)
			}
		}
	}
}

// grown is a shape that bytes tell; most are such that may be.
func grown(told []byte) api.Shape {
	next := func() int {
		if len(told) == 0 {
			return 0
		}
		c := int(told[0])
		told = told[1:]
		return c
	}
	vals := func() []api.Atom {
		var l []api.Atom
		for range next() % 4 {
			c := next()
			l = append(l, api.Atom{Kind: c%10 - 1, N: c/10%4 - 1})
		}
		if next()%4 > 0 {
			l = atoms.Norm(l)
		}
		return l
	}
	s := api.Shape{Proto: vals()}
	for len(told) > 0 {
		c := next()
		name := names()[c/2%5]
		if _, there := getWords(s, name); !there || c > 250 {
			s.Fields = append(s.Fields, api.Field{Name: name, Sure: c%2 == 1, Vals: vals()})
		}
	}
	if len(s.Fields)%3 > 0 {
		slices.SortStableFunc(s.Fields, func(f, g api.Field) int {
			return slices.Index(names(), f.Name) - slices.Index(names(), g.Name)
		})
	}
	return s
}

// FuzzObject holds all calls against the chapter, of shapes that bytes tell.
func FuzzObject(f *testing.F) {
	for _, s := range []string{"", "\x00", "abc", "\x01\x03\x01\x02\x01\x05\x01", "\xff\xfe\xfd\x00\x01", "\x02\x05\x25\x01\x03\x01\x01\x01\x07\x02\x15\x05\x01\x04\x00\x01"} {
		f.Add([]byte(s), []byte(s))
		f.Add([]byte(s), []byte("\x01\x01\x01\x02\x01\x01\x01\x09\x01\x05\x01"))
	}
	f.Fuzz(func(t *testing.T, first, second []byte) {
		a, b := grown(first[:min(len(first), 100)]), grown(second[:min(len(second), 100)])
		wantWords(t, a)
		wantWords(t, b)
		wantBoth(t, a, b)
	})
}
