package number_test

import (
	"protean/api"
	"protean/number"
	"protean/parse"
	"slices"
	"strconv"
	"strings"
	"testing"
)

// lists are all lists of so many statements: the first one, with each split of the others among its Then, its Else and what is behind it; kinds says of each one, by its bits from the lowest on, whether it is a site. Names are told in the chapter's order, so that a list says by itself which numbers it has.
func lists(count, kinds int, tell func(l []api.Stmt)) {
	var from func(first, count int, tell func(l []api.Stmt))
	from = func(first, count int, tell func(l []api.Stmt)) {
		if count == 0 {
			tell(nil)
			return
		}
		op := api.StIf
		if kinds>>first&1 == 1 {
			op = api.StNew
		}
		for inThen := range count {
			for inElse := range count - inThen {
				from(first+1, inThen, func(a []api.Stmt) {
					from(first+1+inThen, inElse, func(b []api.Stmt) {
						from(first+1+inThen+inElse, count-1-inThen-inElse, func(behind []api.Stmt) {
							tell(append(block(stmt(strconv.Itoa(first), op, a, b)), behind...))
						})
					})
				})
			}
		}
	}
	from(0, count, tell)
}

// wantFollows is P4.3, with what P4.1 and P4.2 say of each number, for a list whose names are its numbers.
func wantFollows(t *testing.T, l []api.Stmt, count int) {
	t.Helper()
	list := number.List(l)
	if number.Count(l) != count || len(list) != count {
		t.Fatalf("%v: Count %v, List %v; want %v", l, number.Count(l), list, count)
	}
	sites := 0
	for n, s := range list {
		if s.X != strconv.Itoa(n) {
			t.Fatalf("%v: statement %v is %v", l, n, s.X)
		}
		site, is := number.Site(l, n)
		if is != (s.Op == api.StNew) || is && site != sites || !is && site != 0 {
			t.Fatalf("%v: Site %v: %v, %v", l, n, site, is)
		}
		if is {
			sites++
		}
		wantBlocksListed(t, l, list, n)
	}
	if number.Sites(l) != sites {
		t.Fatalf("%v: Sites %v; want %v", l, number.Sites(l), sites)
	}
	wantNoSuch(t, "follows", l, count)
}

// wantBlocksListed: from the numbers that Blocks tells on, the list has the statements of these blocks, and no others.
func wantBlocksListed(t *testing.T, l, list []api.Stmt, n int) {
	t.Helper()
	atThen, atElse, next := number.Blocks(l, n)
	if atThen != n+1 || atElse < atThen || next < atElse || next > len(list) {
		t.Fatalf("%v: Blocks %v: %v, %v, %v", l, n, atThen, atElse, next)
	}
	if !same(list[atThen:atElse], number.List(list[n].Then)) || !same(list[atElse:next], number.List(list[n].Else)) {
		t.Fatalf("%v: Blocks %v: %v, %v, %v; they are not there", l, n, atThen, atElse, next)
	}
}

// P4.3: all lists of few statements, each with sites at all places.
func TestAllLists(t *testing.T) {
	for count, many := range []int{1, 1, 3, 12, 55, 273} {
		for kinds := range 1 << count {
			told := 0
			lists(count, kinds, func(l []api.Stmt) {
				told++
				wantFollows(t, l, count)
			})
			if told != many {
				t.Fatalf("%v lists of %v statements; want %v", told, count, many)
			}
		}
	}
}

// P4.3: two lists, one behind the other, keep the order of their statements, and the numbers of the first one.
func TestOneBehindTheOther(t *testing.T) {
	lists(3, 0b101, func(a []api.Stmt) {
		lists(4, 0b0110, func(b []api.Stmt) {
			l := slices.Concat(a, b)
			if !same(number.List(l), slices.Concat(number.List(a), number.List(b))) {
				t.Fatalf("%v: List %v", l, number.List(l))
			}
			for n := range number.Count(l) {
				site, is := number.Site(a, n)
				atThen, atElse, next := number.Blocks(a, n)
				if n >= 3 {
					site, is = number.Site(b, n-3)
					if is {
						site += 2
					}
					atThen, atElse, next = number.Blocks(b, n-3)
					atThen, atElse, next = atThen+3, atElse+3, next+3
				}
				if s, ok := number.Site(l, n); s != site || ok != is {
					t.Fatalf("%v: Site %v: %v, %v; want %v, %v", l, n, s, ok, site, is)
				}
				wantBlocks(t, "behind", l, n, [3]int{atThen, atElse, next})
			}
		})
	})
}

// source is a body in which the statements' numbers stand as their first operands: front to back in the text is front to back by the chapter.
const source = `fun main() {
	a = 0;
	if 1 {
		while 2 { b = new { p : 3 } proto null; out 4; }
		if 5 { } else { return 6; }
		if 7 { c = call g(8); }
	} else {
		b.p = 9;
		d = new { p : 10, q : 1 } proto a;
		while 11 { while 12 { } }
	}
	while 13 { if 14 { e = a(15); } else { e = 16 + 1; } }
	e = new { } proto 17;
	return 18;
}`

// P4.1 to P4.3: a program that is parsed of a text.
func TestParsed(t *testing.T) {
	p, f := parse.Parse(source)
	if f != (api.Fault{}) {
		t.Fatal(f)
	}
	l := p.Funcs[0].Body
	for n, s := range number.List(l) {
		if s.A[0].N != n {
			t.Errorf("statement %v: %v", n, s)
		}
	}
	if number.Count(l) != 19 {
		t.Errorf("Count %v", number.Count(l))
	}
	wantSites(t, "parsed", l, []int{3, 10, 17})
	for n, w := range map[int][3]int{0: {1, 1, 1}, 1: {2, 9, 13}, 2: {3, 5, 5}, 5: {6, 6, 7}, 7: {8, 9, 9}, 11: {12, 13, 13}, 12: {13, 13, 13}, 13: {14, 17, 17}, 14: {15, 16, 17}, 18: {19, 19, 19}} {
		wantBlocks(t, "parsed", l, n, w)
	}
	wantNoSuch(t, "parsed", l, 19)
}

// P4.3: a program as great as there may be one: 2000 statements, in blocks as deep as they may be.
func TestParsedGreatest(t *testing.T) {
	head := strings.Repeat("if 1 { a = new { } proto null; ", api.MaxDeep-1)
	tail := strings.Repeat("} else { out 1; } ", api.MaxDeep-1)
	row := strings.Repeat("a = 1; ", api.MaxStmts-3*(api.MaxDeep-1))
	p, f := parse.Parse("fun main() { " + head + row + tail + "}")
	if f != (api.Fault{}) {
		t.Fatal(f)
	}
	l := p.Funcs[0].Body
	if number.Count(l) != api.MaxStmts || number.Sites(l) != api.MaxDeep-1 {
		t.Errorf("Count %v, Sites %v", number.Count(l), number.Sites(l))
	}
	list := number.List(l)
	for n := range list {
		wantBlocksListed(t, l, list, n)
	}
	for i := range api.MaxDeep - 1 {
		if s, ok := number.Site(l, 2*i+1); s != i || !ok {
			t.Errorf("Site %v: %v, %v", 2*i+1, s, ok)
		}
		wantBlocks(t, "greatest", l, 2*i, [3]int{2*i + 1, api.MaxStmts - i - 1, api.MaxStmts - i})
	}
}

// grown is a list that bytes tell, and how many statements it has: a byte below 224 is a statement, of any kind, and says by two bits whether a Then and an Else follow; others end a block. Names are its numbers.
func grown(told []byte) ([]api.Stmt, int) {
	at, count := 0, 0
	var rest func(deep int) []api.Stmt
	rest = func(deep int) []api.Stmt {
		var l []api.Stmt
		for at < len(told) && told[at] < 224 {
			c := int(told[at])
			at++
			s := stmt(strconv.Itoa(count), c%(api.StKinds+2)-1)
			count++
			if c&32 != 0 && deep < 64 {
				s.Then = rest(deep + 1)
			}
			if c&64 != 0 && deep < 64 {
				s.Else = rest(deep + 1)
			}
			l = append(l, s)
		}
		at++
		return l
	}
	return rest(0), count
}

// P4.1 to P4.3: whatever list comes.
func FuzzNumber(f *testing.F) {
	f.Add([]byte{})
	f.Add([]byte{5, 5, 5})
	f.Add([]byte{96, 5, 255, 37, 5, 255, 255, 5})
	f.Add([]byte("if a { b } else { while c { d } }"))
	f.Fuzz(func(t *testing.T, told []byte) {
		if len(told) > 300 {
			told = told[:300]
		}
		l, count := grown(told)
		wantFollows(t, l, count)
	})
}
