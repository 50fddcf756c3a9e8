package number_test

import (
	"math"
	"protean/api"
	"protean/number"
	"reflect"
	"slices"
	"strconv"
	"strings"
	"testing"
)

// stmt is a statement of any kind, with the blocks that are given (Then, and Else); its X is the name by which the tests know it.
func stmt(name string, op int, blocks ...[]api.Stmt) api.Stmt {
	s := api.Stmt{Op: op, X: name}
	if len(blocks) > 0 {
		s.Then = blocks[0]
	}
	if len(blocks) > 1 {
		s.Else = blocks[1]
	}
	return s
}

func in(name string) api.Stmt { return stmt(name, api.StIn) }

func made(name string) api.Stmt { return stmt(name, api.StNew) }

func block(l ...api.Stmt) []api.Stmt { return l }

// want is all that the chapter says of a list: its statements' names by their numbers, those that are sites, rising, and each one's Blocks.
type want struct {
	names  string
	sites  []int
	blocks [][3]int
}

func wantAll(t *testing.T, what string, l []api.Stmt, w want) {
	t.Helper()
	wantNames(t, what, l, strings.Fields(w.names))
	wantSites(t, what, l, w.sites)
	for n, b := range w.blocks {
		wantBlocks(t, what, l, n, b)
	}
	if len(w.blocks) != number.Count(l) {
		t.Errorf("%v: Count %v; want %v", what, number.Count(l), len(w.blocks))
	}
	wantNoSuch(t, what, l, len(w.blocks))
}

func wantNames(t *testing.T, what string, l []api.Stmt, names []string) {
	t.Helper()
	var got []string
	for _, s := range number.List(l) {
		got = append(got, s.X)
	}
	if !slices.Equal(got, names) || number.Count(l) != len(names) {
		t.Errorf("%v: List %.200q, Count %v; want %.200q", what, got, number.Count(l), names)
	}
}

// wantSites: these numbers are the sites 0, 1 and so on, and no others are sites.
func wantSites(t *testing.T, what string, l []api.Stmt, sites []int) {
	t.Helper()
	if got := number.Sites(l); got != len(sites) {
		t.Errorf("%v: Sites %v; want %v", what, got, len(sites))
	}
	for n := range number.Count(l) {
		site := max(slices.Index(sites, n), 0)
		is := slices.Contains(sites, n)
		if s, ok := number.Site(l, n); s != site || ok != is {
			t.Errorf("%v: Site %v: %v, %v; want %v, %v", what, n, s, ok, site, is)
		}
	}
}

func wantBlocks(t *testing.T, what string, l []api.Stmt, n int, w [3]int) {
	t.Helper()
	if a, b, c := number.Blocks(l, n); [3]int{a, b, c} != w {
		t.Errorf("%v: Blocks %v: %v, %v, %v; want %v", what, n, a, b, c, w)
	}
}

// wantNoSuch: numbers that no statement has, where there are so many.
func wantNoSuch(t *testing.T, what string, l []api.Stmt, count int) {
	t.Helper()
	for _, n := range []int{-1, -2, -count - 1, math.MinInt, math.MinInt + 1, math.MinInt32, count, count + 1, 2*count + 2, math.MaxInt32, math.MaxInt32 + 1, math.MaxInt - 1, math.MaxInt} {
		if s, ok := number.Site(l, n); s != 0 || ok {
			t.Errorf("%v: Site %v: %v, %v", what, n, s, ok)
		}
		wantBlocks(t, what, l, n, [3]int{-1, -1, -1})
	}
}

// P4.1, P4.2: the chapter's example, and the numbers within it.
func TestExample(t *testing.T) {
	l := block(stmt("a", api.StIf, block(in("b")), block(in("c"))), in("d"))
	wantAll(t, "example", l, want{"a b c d", nil, [][3]int{{1, 2, 3}, {2, 2, 2}, {3, 3, 3}, {4, 4, 4}}})
}

// P4.1, P4.2: no statement at all.
func TestEmpty(t *testing.T) {
	behind := block(made("a"), made("b"))
	for what, l := range map[string][]api.Stmt{"nil": nil, "empty": {}, "with room": make([]api.Stmt, 0, 3), "cut off": behind[:0], "cut off at its end": behind[2:]} {
		wantAll(t, what, l, want{})
		if got := number.List(l); len(got) != 0 {
			t.Errorf("%v: List %v", what, got)
		}
	}
}

// P4.1, P4.2: lists whose blocks are empty, nested, first, last, both, none.
func TestLists(t *testing.T) {
	for what, c := range map[string]struct {
		l []api.Stmt
		w want
	}{
		"one":      {block(in("a")), want{"a", nil, [][3]int{{1, 1, 1}}}},
		"one site": {block(made("a")), want{"a", []int{0}, [][3]int{{1, 1, 1}}}},
		"a row":    {block(made("a"), in("b"), made("c")), want{"a b c", []int{0, 2}, [][3]int{{1, 1, 1}, {2, 2, 2}, {3, 3, 3}}}},
		"an if with empty blocks, alone": {
			block(stmt("a", api.StIf, block(), block())), want{"a", nil, [][3]int{{1, 1, 1}}}},
		"an if with empty blocks, ahead of one": {
			block(stmt("a", api.StIf, nil, block()), made("b")), want{"a b", []int{1}, [][3]int{{1, 1, 1}, {2, 2, 2}}}},
		"an if without Else, the last one": {
			block(in("a"), stmt("b", api.StIf, block(made("c"), in("d")))),
			want{"a b c d", []int{2}, [][3]int{{1, 1, 1}, {2, 4, 4}, {3, 3, 3}, {4, 4, 4}}}},
		"an if without Then": {
			block(stmt("a", api.StIf, nil, block(made("b"), made("c"))), in("d")),
			want{"a b c d", []int{1, 2}, [][3]int{{1, 1, 3}, {2, 2, 2}, {3, 3, 3}, {4, 4, 4}}}},
		"a loop ahead of sites": {
			block(stmt("a", api.StWhile, block(made("b"))), made("c"), stmt("d", api.StWhile, nil), made("e")),
			want{"a b c d e", []int{1, 2, 4}, [][3]int{{1, 2, 2}, {2, 2, 2}, {3, 3, 3}, {4, 4, 4}, {5, 5, 5}}}},
		"blocks in Then and in Else": {
			block(
				made("a"),
				stmt("b", api.StIf,
					block(stmt("c", api.StIf, block(in("d"), made("e")), block(in("f"))), made("g")),
					block(stmt("h", api.StWhile, block(stmt("i", api.StIf, nil, block(made("j"))))), in("k"))),
				stmt("l", api.StReturn)),
			want{"a b c d e f g h i j k l", []int{0, 4, 6, 9}, [][3]int{
				{1, 1, 1}, {2, 7, 11}, {3, 5, 6}, {4, 4, 4}, {5, 5, 5}, {6, 6, 6},
				{7, 7, 7}, {8, 10, 10}, {9, 9, 10}, {10, 10, 10}, {11, 11, 11}, {12, 12, 12}}}},
		"the last of the last": {
			block(stmt("a", api.StWhile, block(stmt("b", api.StIf, nil, block(stmt("c", api.StWhile, block(made("d")))))))),
			want{"a b c d", []int{3}, [][3]int{{1, 4, 4}, {2, 2, 4}, {3, 4, 4}, {4, 4, 4}}}},
		"sites with blocks": {
			block(stmt("a", api.StNew, block(made("b")), block(stmt("c", api.StNew, block(in("d")), block(made("e"))))), made("f")),
			want{"a b c d e f", []int{0, 1, 2, 4, 5}, [][3]int{{1, 2, 5}, {2, 2, 2}, {3, 4, 5}, {4, 4, 4}, {5, 5, 5}, {6, 6, 6}}}},
	} {
		wantAll(t, what, c.l, c.w)
	}
}

// someKinds are all kinds of statements, and some that there are none of.
func someKinds() []int {
	kinds := []int{-1, -api.StNew, api.StKinds, api.StKinds + api.StNew, 1<<32 + api.StNew, math.MinInt, math.MaxInt}
	for op := range api.StKinds {
		kinds = append(kinds, op)
	}
	return kinds
}

// P4.1, P4.2: a statement is numbered whatever its kind is, and so are those of its blocks; StNew alone is a site.
func TestEachKind(t *testing.T) {
	for _, op := range someKinds() {
		what := "kind " + strconv.Itoa(op)
		var first, behind []int
		if op == api.StNew {
			first, behind = []int{0}, []int{1}
		}
		wantAll(t, what, block(stmt("a", op), in("b")), want{"a b", first, [][3]int{{1, 1, 1}, {2, 2, 2}}})
		wantAll(t, what, block(in("a"), stmt("b", op)), want{"a b", behind, [][3]int{{1, 1, 1}, {2, 2, 2}}})
		l := block(stmt("a", op, block(in("b"), in("c")), block(made("d"))), made("e"))
		wantAll(t, what, l, want{"a b c d e", append(first, 3, 4), [][3]int{{1, 3, 4}, {2, 2, 2}, {3, 3, 3}, {4, 4, 4}, {5, 5, 5}}})
		l = block(made("a"), stmt("b", api.StIf, block(made("c")), block(stmt("d", op, block(made("e"))))))
		sites := []int{0, 2, 4}
		if op == api.StNew {
			sites = []int{0, 2, 3, 4}
		}
		wantAll(t, what, l, want{"a b c d e", sites, [][3]int{{1, 1, 1}, {2, 3, 5}, {3, 3, 3}, {4, 5, 5}, {5, 5, 5}}})
	}
}

// full is a statement all of whose fields say something.
func full(name string, blocks ...[]api.Stmt) api.Stmt {
	s := stmt(name, api.StNew, blocks...)
	s.Y, s.P = "y"+name, "p"+name
	s.A = []api.Operand{{Kind: api.OpNum, N: 7, Name: name}, {Kind: -1}, {Kind: api.OpFun, Name: "g"}}
	s.Props = []string{"q", "", name}
	return s
}

func fullList() []api.Stmt {
	return block(
		full("a", block(full("b"), full("c", block(full("d")), block(full("e")))), block(full("f"))),
		full("g", nil, block(full("h"))))
}

// P4.1: what List answers are the statements themselves, whole, with their blocks.
func TestListIsWhole(t *testing.T) {
	l := fullList()
	a := l[0]
	c := a.Then[1]
	g := l[1]
	w := block(a, a.Then[0], c, c.Then[0], c.Else[0], a.Else[0], g, g.Else[0])
	if got := number.List(l); !reflect.DeepEqual(got, w) {
		t.Errorf("List %v; want %v", got, w)
	}
}

// spoil writes over all that a list of statements holds.
func spoil(l []api.Stmt) {
	for i := range l {
		for j := range l[i].A {
			l[i].A[j] = api.Operand{Kind: 99, N: 99, Name: "spoilt"}
		}
		for j := range l[i].Props {
			l[i].Props[j] = "spoilt"
		}
		spoil(l[i].Then)
		spoil(l[i].Else)
		l[i] = api.Stmt{Op: 99, X: "spoilt"}
	}
}

// R4: an argument is not changed, and no answer is changed with it or with another one.
func TestNoMemoryIsShared(t *testing.T) {
	l := fullList()
	first, second := number.List(l), number.List(l)
	number.Count(l)
	number.Sites(l)
	for n := range number.Count(l) {
		number.Site(l, n)
		number.Blocks(l, n)
	}
	if !reflect.DeepEqual(l, fullList()) {
		t.Errorf("the argument is changed: %v", l)
	}
	spoil(first)
	if !reflect.DeepEqual(l, fullList()) {
		t.Errorf("the argument is changed with the answer: %v", l)
	}
	spoil(l)
	if !reflect.DeepEqual(second, number.List(fullList())) {
		t.Errorf("the answer is changed with the argument, or with another answer: %v", second)
	}
}

// R4: a block of a statement is no list of another one, nor a part of the answer's own, and nothing is put into what lies behind a list.
func TestNoTwoListsAreOne(t *testing.T) {
	w := number.List(fullList())
	for n := range w {
		got := number.List(fullList())
		spoil(got[n : n+1])
		for i := range got {
			if i != n && !reflect.DeepEqual(got[i], w[i]) {
				t.Errorf("statement %v is changed with %v: %v", i, n, got[i])
			}
		}
	}
	got := number.List(fullList())
	for i := range got {
		got[i].A = append(got[i].A, api.Operand{Kind: 99})
		got[i].Props = append(got[i].Props, "spoilt")
		got[i].Then = append(got[i].Then, stmt("spoilt", 99))
		got[i].Else = append(got[i].Else, stmt("spoilt", 99))
	}
	for i := range got {
		n := len(got[i].A) - 1
		got[i].A, got[i].Props = got[i].A[:n], got[i].Props[:n]
		got[i].Then, got[i].Else = got[i].Then[:len(got[i].Then)-1], got[i].Else[:len(got[i].Else)-1]
	}
	if !same(got, w) {
		t.Errorf("a list is changed with another one: %v", got)
	}
}

// same holds statements against each other; an empty list and a nil one are the same (R5).
func same(a, b []api.Stmt) bool {
	return slices.EqualFunc(a, b, func(s, r api.Stmt) bool {
		return s.Op == r.Op && s.X == r.X && s.Y == r.Y && s.P == r.P && slices.Equal(s.A, r.A) && slices.Equal(s.Props, r.Props) && same(s.Then, r.Then) && same(s.Else, r.Else)
	})
}

// R5: blocks that are empty or nil are the same; so are lists with something behind their end.
func TestEmptyAndNilAreTheSame(t *testing.T) {
	longer := block(made("b"), made("hidden"), made("hidden"))
	for what, none := range map[string][]api.Stmt{"nil": nil, "empty": {}, "cut off": longer[:0]} {
		l := block(stmt("a", api.StIf, none, longer[:1]), stmt("c", api.StWhile, none, none), stmt("d", api.StIf, longer[:1:1], none))
		wantAll(t, what, l, want{"a b c d b", []int{1, 4}, [][3]int{{1, 1, 2}, {2, 2, 2}, {3, 3, 3}, {4, 5, 5}, {5, 5, 5}}})
		if !same(number.List(l)[:1], l[:1]) {
			t.Errorf("%v: %v", what, number.List(l)[0])
		}
	}
}

// R1: 2^16 blocks in one another, by Then and by Else in turn, with a site in the innermost one and behind each.
func TestDeep(t *testing.T) {
	const deep = 1 << 16
	l := block(made("x"))
	for i := range deep {
		s := stmt("x", api.StIf, l)
		if i%2 == 0 {
			s = stmt("x", api.StIf, nil, l)
		}
		l = block(s, made("x"))
	}
	const count = 2*deep + 1
	if number.Count(l) != count || number.Sites(l) != deep+1 {
		t.Errorf("Count %v, Sites %v", number.Count(l), number.Sites(l))
	}
	for n, site := range map[int]int{deep: 0, deep + 1: 1, count - 1: deep} {
		if s, ok := number.Site(l, n); s != site || !ok {
			t.Errorf("Site %v: %v, %v; want %v", n, s, ok, site)
		}
	}
	// The statement 0 was made last, with an odd i: it has a Then.
	for n, w := range map[int][3]int{0: {1, count - 1, count - 1}, 1: {2, 2, count - 2}, deep - 1: {deep, deep, deep + 1}, deep: {deep + 1, deep + 1, deep + 1}, count - 1: {count, count, count}} {
		wantBlocks(t, "deep", l, n, w)
	}
	wantNoSuch(t, "deep", l, count)
}

// R1: List of blocks in one another, where the answer is still of a size that is promised.
func TestDeepList(t *testing.T) {
	const deep = 600
	var names []string
	l := block(made("last"))
	for i := range deep {
		name := strconv.Itoa(i)
		names = append(names, name)
		l = block(stmt(name, api.StWhile, l))
	}
	slices.Reverse(names)
	wantNames(t, "deep", l, append(names, "last"))
	if got := number.List(l); !same(got[:1], l) || !same(got[1:2], l[0].Then) {
		t.Error("a statement is not whole")
	}
}

// R1: a row of very many statements.
func TestLong(t *testing.T) {
	const long = 200000
	l := make([]api.Stmt, long)
	for i := range l {
		l[i] = stmt(strconv.Itoa(i), i%api.StKinds)
	}
	list := number.List(l)
	if number.Count(l) != long || len(list) != long || number.Sites(l) != (long-api.StNew+api.StKinds-1)/api.StKinds {
		t.Errorf("Count %v, List of %v, Sites %v", number.Count(l), len(list), number.Sites(l))
	}
	for i, s := range list {
		if s.X != strconv.Itoa(i) {
			t.Fatalf("statement %v: %v", i, s.X)
		}
	}
	last := (long-1-api.StNew)/api.StKinds*api.StKinds + api.StNew
	if s, ok := number.Site(l, last); s != number.Sites(l)-1 || !ok {
		t.Errorf("Site %v: %v, %v", last, s, ok)
	}
	wantBlocks(t, "long", l, long-1, [3]int{long, long, long})
	wantNoSuch(t, "long", l, long)
}
