package resolve_test

import (
	"math"
	"protean/api"
	"protean/number"
	"protean/parse"
	"protean/resolve"
	"reflect"
	"slices"
	"strconv"
	"strings"
	"testing"
)

// Some operands.
var (
	null = api.Operand{}
	num  = api.Operand{Kind: api.OpNum, N: 7}
)

func fun(name string) api.Operand { return api.Operand{Kind: api.OpFun, Name: name} }

func variable(name string) api.Operand { return api.Operand{Kind: api.OpVar, Name: name} }

func move(a api.Operand) api.Stmt {
	return api.Stmt{Op: api.StMove, X: "x", A: []api.Operand{a}}
}

func call(name string, a ...api.Operand) api.Stmt {
	return api.Stmt{Op: api.StCall, X: "x", P: name, A: a}
}

// made is a statement that makes an object with these properties, and with this prototype.
func made(proto api.Operand, props ...string) api.Stmt {
	a := make([]api.Operand, len(props))
	return api.Stmt{Op: api.StNew, X: "x", Props: props, A: append(a, proto)}
}

// branch is a statement with blocks, Then and Else.
func branch(blocks ...[]api.Stmt) api.Stmt {
	s := api.Stmt{Op: api.StIf, A: []api.Operand{variable("c")}}
	if len(blocks) > 0 {
		s.Then = blocks[0]
	}
	if len(blocks) > 1 {
		s.Else = blocks[1]
	}
	return s
}

func block(l ...api.Stmt) []api.Stmt { return l }

func function(name string, params []string, body ...api.Stmt) api.Func {
	return api.Func{Name: name, Params: params, Body: body}
}

// mainOf is a program of a function main alone.
func mainOf(body ...api.Stmt) api.Program {
	return program(function("main", nil, body...))
}

func program(l ...api.Func) api.Program { return api.Program{Funcs: l} }

func parsed(t *testing.T, source string) api.Program {
	t.Helper()
	p, f := parse.Parse(source)
	if f != (api.Fault{}) {
		t.Fatalf("%q: %v", source, f)
	}
	return p
}

func wantCheck(t *testing.T, what string, p api.Program, w api.Fault) {
	t.Helper()
	if got := resolve.Check(p); got != w {
		t.Errorf("%.300s: Check %v; want %v", what, got, w)
	}
}

func wantNames(t *testing.T, what string, got []string, want ...string) {
	t.Helper()
	if !slices.Equal(got, want) {
		t.Errorf("%.300s: %.300q; want %.300q", what, got, want)
	}
}

// P5.1: the chapter's example.
func TestExample(t *testing.T) {
	wantCheck(t, "example", parsed(t, "fun main() { x = call g(); }"), api.Fault{Code: api.ErrResolveFun, At: 1})
}

// P5.1: programs whose names are right.
func TestRight(t *testing.T) {
	for _, s := range []string{
		"fun main() { }",
		"fun f(a) { } fun main() { }",
		"fun main() { } fun f() { } fun g() { }",
		"fun main() { x = call main(); }",
		"fun main() { x = &main; out &main; return &main; }",
		"fun main() { x = call g(1, &h); x.p = &g; } fun g(a, b) { z = a(&main); } fun h() { x = call g(x, x); }",
		"fun main() { x = new { p : 1, q : 2, r : &main } proto &main; x = new { p : 1 } proto x; y = new { } proto null; }",
		"fun main() { if x { x = call f(1); } else { while x { x = call main(); } } } fun f(x) { x = &f; }",
		"fun f(f, g) { } fun main() { f = 1; main = call f(f, main); main.main = f; }",
		"fun mai() { } fun main() { } fun main0(a) { } fun Main(b) { }",
		"fun f(a, b) { x = new { a : a, b : b } proto a; } fun g(a, b) { } fun main() { x = call f(a, a); a = x(1); a = x(1, 2); }",
		"fun main() { x = f(1); x = f(); x = g.h; g.h = g; }",
	} {
		wantCheck(t, s, parsed(t, s), api.Fault{})
	}
}

// P5.1: each fault by itself, at its place.
func TestEachFault(t *testing.T) {
	for s, f := range map[string]api.Fault{
		"fun main() { } fun main() { }":                                                     {Code: api.ErrResolveTwice, At: 10000},
		"fun main() { } fun main(a) { }":                                                    {Code: api.ErrResolveTwice, At: 10000},
		"fun main() { } fun f() { } fun g() { } fun f() { }":                                {Code: api.ErrResolveTwice, At: 30000},
		"fun f() { } fun f() { } fun f() { } fun main() { }":                                {Code: api.ErrResolveTwice, At: 10000},
		"fun f(a, a) { } fun main() { }":                                                    {Code: api.ErrResolveTwice, At: 0},
		"fun main(a, a) { }":                                                                {Code: api.ErrResolveTwice, At: 0},
		"fun main() { } fun f(a, b, c, a) { }":                                              {Code: api.ErrResolveTwice, At: 10000},
		"fun main() { } fun f(a, b) { } fun g(a, b, b) { }":                                 {Code: api.ErrResolveTwice, At: 20000},
		"fun main() { x = new { p : 1, p : 1 } proto null; }":                               {Code: api.ErrResolveTwice, At: 1},
		"fun main() { x = 1; } fun f() { x = 1; x = new { p : 1, q : 1, p : 1 } proto 1; }": {Code: api.ErrResolveTwice, At: 10002},
		"fun main() { x = new { q : 1, p : 1, r : 1, p : 1 } proto null; }":                 {Code: api.ErrResolveTwice, At: 1},
		"fun main() { x = &g; }":                                                            {Code: api.ErrResolveFun, At: 1},
		"fun main() { x = 1; x = 1 + &g; }":                                                 {Code: api.ErrResolveFun, At: 2},
		"fun main() { x = &g - 1; }":                                                        {Code: api.ErrResolveFun, At: 1},
		"fun main() { x.p = &g; }":                                                          {Code: api.ErrResolveFun, At: 1},
		"fun main() { x = new { p : 1, q : &g, r : 1 } proto null; }":                       {Code: api.ErrResolveFun, At: 1},
		"fun main() { x = new { p : 1 } proto &g; }":                                        {Code: api.ErrResolveFun, At: 1},
		"fun main() { x = call f(1, &g); } fun f(a, b) { }":                                 {Code: api.ErrResolveFun, At: 1},
		"fun main() { x = y(1, &g); }":                                                      {Code: api.ErrResolveFun, At: 1},
		"fun main() { out &g; }":                                                            {Code: api.ErrResolveFun, At: 1},
		"fun main() { return &g; }":                                                         {Code: api.ErrResolveFun, At: 1},
		"fun main() { if &g { } }":                                                          {Code: api.ErrResolveFun, At: 1},
		"fun main() { while &g { } }":                                                       {Code: api.ErrResolveFun, At: 1},
		"fun main() { x = call x(); }":                                                      {Code: api.ErrResolveFun, At: 1},
		"fun main() { } fun f(g) { } fun h() { x = call g(); }":                             {Code: api.ErrResolveFun, At: 20001},
		"fun main() { x = call f(); } fun f(a) { }":                                         {Code: api.ErrResolveArity, At: 1},
		"fun main() { x = call f(1, 2); } fun f(a) { }":                                     {Code: api.ErrResolveArity, At: 1},
		"fun main() { x = call main(x); }":                                                  {Code: api.ErrResolveArity, At: 1},
		"fun main() { } fun f(a, b) { x = 1; x = call f(&f); }":                             {Code: api.ErrResolveArity, At: 10002},
		"fun main(a) { }":                                                                   {Code: api.ErrResolveMain, At: -1},
		"fun f() { }":                                                                       {Code: api.ErrResolveMain, At: -1},
		"fun mai() { } fun main0() { } fun Main() { }":                                      {Code: api.ErrResolveMain, At: -1},
		"fun f() { } fun main(a, b) { x = call main(1, 2); }":                               {Code: api.ErrResolveMain, At: -1},
	} {
		wantCheck(t, s, parsed(t, s), f)
	}
}

// P5.1: of several faults the first one: a function's own ahead of its statements', a function's ahead of the next one's, ErrResolveMain at last.
func TestOrderOfFaults(t *testing.T) {
	const twice, none, arity = "x = new { p : 1, p : 1 } proto null; ", "x = &none; ", "x = call f(1); "
	for s, f := range map[string]api.Fault{
		"fun f(a, a) { " + none + "}":                                                    {Code: api.ErrResolveTwice, At: 0},
		"fun f() { } fun f() { " + none + "}":                                            {Code: api.ErrResolveTwice, At: 10000},
		"fun f() { " + none + "} fun f() { } fun g(a, a) { }":                            {Code: api.ErrResolveFun, At: 1},
		"fun f() { " + arity + "} fun f() { }":                                           {Code: api.ErrResolveArity, At: 1},
		"fun f() { " + twice + "} fun g(a, a) { }":                                       {Code: api.ErrResolveTwice, At: 1},
		"fun f(a, a) { } fun f(a, a) { }":                                                {Code: api.ErrResolveTwice, At: 0},
		"fun f() { } fun g(a, a) { } fun f() { }":                                        {Code: api.ErrResolveTwice, At: 10000},
		"fun f() { } fun f() { } fun g(a, a) { }":                                        {Code: api.ErrResolveTwice, At: 10000},
		"fun f() { " + none + twice + "}":                                                {Code: api.ErrResolveFun, At: 1},
		"fun f() { x = 1; " + arity + none + twice + "}":                                 {Code: api.ErrResolveArity, At: 2},
		"fun f() { " + twice + arity + none + "}":                                        {Code: api.ErrResolveTwice, At: 1},
		"fun f() { if x { " + none + "} " + twice + "}":                                  {Code: api.ErrResolveFun, At: 2},
		"fun f() { if x { } else { " + none + "} " + twice + "}":                         {Code: api.ErrResolveFun, At: 2},
		"fun f() { if x { " + arity + "} else { " + none + "} " + twice + "}":            {Code: api.ErrResolveArity, At: 2},
		"fun f() { if &none { " + twice + "} }":                                          {Code: api.ErrResolveFun, At: 1},
		"fun f() { while x { while x { x = 1; } " + arity + "} " + twice + "}":           {Code: api.ErrResolveArity, At: 4},
		"fun f() { x = 1; } fun g() { x = 1; " + none + "} fun h() { " + twice + "}":     {Code: api.ErrResolveFun, At: 10002},
		"fun main(a) { " + none + "}":                                                    {Code: api.ErrResolveFun, At: 1},
		"fun main(a) { } fun main() { }":                                                 {Code: api.ErrResolveTwice, At: 10000},
		"fun main(a) { x = 1; } fun f() { " + arity + "}":                                {Code: api.ErrResolveArity, At: 10001},
		"fun main(a) { } fun f() { } fun g(a, b) { x = call g(x, y); x = call main(); }": {Code: api.ErrResolveArity, At: 20002},
	} {
		wantCheck(t, s, parsed(t, s), f)
	}
}

// P5.1: of one statement's several faults the one named first.
func TestOrderInOneStatement(t *testing.T) {
	f := function("f", []string{"a", "b"})
	for what, c := range map[string]struct {
		s    api.Stmt
		code api.Errno
	}{
		"twice, and no such operand":       {made(fun("g"), "p", "p"), api.ErrResolveTwice},
		"no such operand ahead of its end": {call("f", fun("g"), num), api.ErrResolveFun},
		"no such operand, and too many":    {call("f", num, num, fun("g")), api.ErrResolveFun},
		"no such operand, and too few":     {call("f", fun("g")), api.ErrResolveFun},
		"no such function, and operand":    {call("g", fun("h")), api.ErrResolveFun},
		"no such function, no operands":    {call("g"), api.ErrResolveFun},
		"too few":                          {call("f", fun("f")), api.ErrResolveArity},
		"too many":                         {call("f", num, num, num), api.ErrResolveArity},
		"none":                             {call("f"), api.ErrResolveArity},
		"as many":                          {call("f", fun("f"), fun("main")), api.OK},
	} {
		w := api.Fault{Code: c.code}
		if c.code != api.OK {
			w.At = 2
		}
		wantCheck(t, what, program(function("main", nil, move(null), c.s), f), w)
	}
}

// source is a body whose statements have their numbers as their first operands, as in package number's tests.
const source = `fun main() {
	a = 0;
	if 1 {
		while 2 { b = new { p : 3 } proto null; out 4; }
		if 5 { } else { return 6; }
		if 7 { c = call g(8); }
	} else {
		b.p = 9;
		d = new { p : 10, q : 1 } proto a;
		while 11 { while 12 { } }
	}
	while 13 { if 14 { e = a(15); } else { e = 16 + 1; } }
	e = new { } proto 17;
	return 18;
}`

// spoilt puts a function that there is none of into the statement whose first operand is the number n.
func spoilt(l []api.Stmt, n int) {
	for i, s := range l {
		if s.A[0].N == n {
			l[i].A[0] = fun("none")
		}
		spoilt(s.Then, n)
		spoilt(s.Else, n)
	}
}

// P5.1: a statement's place is that of its function, its number and 1 more, wherever in blocks it stands.
func TestPlaces(t *testing.T) {
	const count = 19
	wantCheck(t, source, parsed(t, source+" fun g(a) { }"), api.Fault{})
	for ahead := range 4 {
		for n := range count {
			p := parsed(t, strings.Repeat("fun f() { x = 1; } ", ahead)+source+" fun g(a) { x = &none; }")
			for i := range ahead {
				p.Funcs[i].Name += strconv.Itoa(i)
			}
			body := p.Funcs[ahead].Body
			spoilt(body, n)
			if got := number.List(body)[n]; got.A[0] != fun("none") {
				t.Fatalf("statement %v: %v", n, got)
			}
			wantCheck(t, "statement "+strconv.Itoa(n), p, api.Fault{Code: api.ErrResolveFun, At: 10000*ahead + n + 1})
		}
	}
}

// P5.1, P5.2, R5: no function at all.
func TestNoFunction(t *testing.T) {
	some := []api.Func{function("main", nil)}
	for what, p := range map[string]api.Program{"nil": {}, "empty": {Funcs: []api.Func{}}, "cut off": {Funcs: some[:0]}} {
		wantCheck(t, what, p, api.Fault{Code: api.ErrResolveMain, At: -1})
		if got := resolve.Fun(p, "main"); got != -1 {
			t.Errorf("%v: Fun %v", what, got)
		}
		if got := resolve.Fun(p, ""); got != -1 {
			t.Errorf("%v: Fun of the empty name %v", what, got)
		}
		wantNames(t, what, resolve.Props(p))
	}
	wantNames(t, "no function", resolve.Vars(api.Func{}))
}

// P5.1, P5.2: to Check and Fun the empty name is a name as others are; Vars and Props leave it away.
func TestEmptyName(t *testing.T) {
	nameless := function("", []string{""})
	for what, c := range map[string]struct {
		p api.Program
		w api.Fault
	}{
		"a function":           {program(function("main", nil), nameless), api.Fault{}},
		"two functions":        {program(nameless, function("main", nil), nameless), api.Fault{Code: api.ErrResolveTwice, At: 20000}},
		"two parameters":       {program(function("main", nil), function("f", []string{"", "a", ""})), api.Fault{Code: api.ErrResolveTwice, At: 10000}},
		"one property":         {mainOf(made(null, "")), api.Fault{}},
		"two properties":       {mainOf(made(null, "", "")), api.Fault{Code: api.ErrResolveTwice, At: 1}},
		"an operand":           {program(function("main", nil, move(fun(""))), nameless), api.Fault{}},
		"an operand, none":     {mainOf(move(fun(""))), api.Fault{Code: api.ErrResolveFun, At: 1}},
		"a call":               {program(function("main", nil, call("", num)), nameless), api.Fault{}},
		"a call, none":         {mainOf(call("")), api.Fault{Code: api.ErrResolveFun, At: 1}},
		"a call, too few":      {program(nameless, function("main", nil, call(""))), api.Fault{Code: api.ErrResolveArity, At: 10001}},
		"no main, but this":    {program(function("", nil)), api.Fault{Code: api.ErrResolveMain, At: -1}},
		"main's one parameter": {program(function("main", []string{""})), api.Fault{Code: api.ErrResolveMain, At: -1}},
	} {
		wantCheck(t, what, c.p, c.w)
	}
	p := program(function("a", nil), nameless, nameless)
	if got := resolve.Fun(p, ""); got != 1 {
		t.Errorf("Fun %v; want 1", got)
	}
	if got := resolve.Fun(p, "main"); got != -1 {
		t.Errorf("Fun %v; want -1", got)
	}
	s := api.Stmt{Op: api.StGet, A: []api.Operand{variable("")}, Props: []string{""}}
	wantNames(t, "Vars", resolve.Vars(function("f", []string{""}, s)))
	wantNames(t, "Props", resolve.Props(mainOf(s, api.Stmt{Op: api.StSet})))
	s.X, s.P = "x", "p"
	wantNames(t, "Vars", resolve.Vars(function("f", []string{""}, s)), "x")
	wantNames(t, "Props", resolve.Props(mainOf(s, api.Stmt{Op: api.StSet})), "p")
}

// P5.1, P5.2: of functions of one name the first one counts: for calls, for main, for Fun.
func TestNameThatStood(t *testing.T) {
	one, two := function("f", []string{"a"}), function("f", []string{"a", "b"})
	calls := func(a ...api.Operand) api.Func { return function("main", nil, call("f", a...)) }
	for what, c := range map[string]struct {
		p api.Program
		w api.Fault
	}{
		"as the first one":               {program(calls(num), one, two), api.Fault{Code: api.ErrResolveTwice, At: 20000}},
		"as the second one":              {program(calls(num, num), one, two), api.Fault{Code: api.ErrResolveArity, At: 1}},
		"as the first one, the longer":   {program(calls(num, num), two, one), api.Fault{Code: api.ErrResolveTwice, At: 20000}},
		"as the second one, the shorter": {program(calls(num), two, one), api.Fault{Code: api.ErrResolveArity, At: 1}},
		"between the two, as the second": {program(one, calls(num, num), two), api.Fault{Code: api.ErrResolveArity, At: 10001}},
		"between the two, as the first":  {program(one, calls(num), two), api.Fault{Code: api.ErrResolveTwice, At: 20000}},
		"main, then with parameters":     {program(function("main", nil), function("main", []string{"a"})), api.Fault{Code: api.ErrResolveTwice, At: 10000}},
	} {
		wantCheck(t, what, c.p, c.w)
	}
	p := program(function("g", nil), one, two, function("main", nil), one, function("main", nil))
	for name, w := range map[string]int{"g": 0, "f": 1, "main": 3, "": -1, "F": -1, "mai": -1, "main0": -1, "ff": -1, "a": -1} {
		if got := resolve.Fun(p, name); got != w {
			t.Errorf("Fun of %q: %v; want %v", name, got, w)
		}
	}
}

// someKinds are all kinds below count, and some that there are none of.
func someKinds(count int) []int {
	kinds := []int{-1, -2, count, count + 1, 2 * count, 1 << 32, math.MinInt, math.MaxInt}
	for k := range count {
		kinds = append(kinds, k, -k-1, 1<<32+k)
	}
	return kinds
}

// P5.1, P5.2: what each kind of statement names, and that those which there are none of have operands, properties and blocks, too.
func TestKindsOfStatements(t *testing.T) {
	g := function("g", []string{"a"})
	at1 := func(code api.Errno, if1 bool) api.Fault {
		if !if1 {
			return api.Fault{}
		}
		return api.Fault{Code: code, At: 1}
	}
	for _, op := range someKinds(api.StKinds) {
		what := "kind " + strconv.Itoa(op)
		// The name P is that of a function where A is as many as its parameters, so that StCall has no other fault.
		s := api.Stmt{Op: op, X: "x", Y: "y", P: "g", A: []api.Operand{variable("v")}, Props: []string{"q", "r"}}
		wantCheck(t, what, program(function("main", nil, s), g), api.Fault{})
		wantNames(t, what, resolve.Vars(function("f", nil, s)), "v", "x", "y")
		props := []string{"q", "r"}
		if op == api.StGet || op == api.StSet {
			props = []string{"g", "q", "r"}
		}
		wantNames(t, what, resolve.Props(mainOf(s)), props...)
		r := s
		r.Props = []string{"q", "r", "q"}
		wantCheck(t, what+": twice", program(function("main", nil, r), g), at1(api.ErrResolveTwice, op == api.StNew))
		r = s
		r.P = "none"
		wantCheck(t, what+": no such P", program(function("main", nil, r), g), at1(api.ErrResolveFun, op == api.StCall))
		r = s
		r.A = []api.Operand{num, num}
		wantCheck(t, what+": too many", program(function("main", nil, r), g), at1(api.ErrResolveArity, op == api.StCall))
		r.A = nil
		wantCheck(t, what+": too few", program(function("main", nil, r), g), at1(api.ErrResolveArity, op == api.StCall))
		r.A = []api.Operand{fun("none")}
		wantCheck(t, what+": no such operand", program(function("main", nil, r), g), at1(api.ErrResolveFun, true))
		r = s
		r.Then, r.Else = block(move(num), move(num)), block(move(fun("none")))
		wantCheck(t, what+": in a block", program(function("main", nil, r), g), api.Fault{Code: api.ErrResolveFun, At: 4})
		r.Then, r.Else = block(move(variable("t"))), block(api.Stmt{Op: op, Y: "e", Props: []string{"s"}})
		wantNames(t, what, resolve.Vars(function("f", nil, r)), "e", "t", "v", "x", "y")
		wantNames(t, what, resolve.Props(mainOf(r)), append(props, "s")...)
	}
}

// P5.1, P5.2: of operands those that are functions, and those that are variables, alone.
func TestKindsOfOperands(t *testing.T) {
	for _, kind := range someKinds(api.OpKinds) {
		what := "kind " + strconv.Itoa(kind)
		s := api.Stmt{Op: api.StOut, A: []api.Operand{num, {Kind: kind, N: 1, Name: "none"}}}
		w := api.Fault{}
		if kind == api.OpFun {
			w = api.Fault{Code: api.ErrResolveFun, At: 1}
		}
		wantCheck(t, what, mainOf(s), w)
		if kind == api.OpVar {
			wantNames(t, what, resolve.Vars(function("f", nil, s)), "none")
		} else {
			wantNames(t, what, resolve.Vars(function("f", nil, s)))
		}
		wantNames(t, what, resolve.Props(mainOf(s)))
	}
}

// P5.1, P5.2: programs that no text is.
func TestNoText(t *testing.T) {
	p := program(
		function("main", nil,
			api.Stmt{Op: api.StNew, Props: []string{"a b", "a"}},
			api.Stmt{Op: api.StNew, Props: []string{"p"}, A: []api.Operand{null, null, null, fun("while")}},
			api.Stmt{Op: api.StCall, P: "while", Props: []string{"s", "s"}},
			api.Stmt{Op: api.StGet, P: "\x00", X: "if", Y: "\xff", Then: block(api.Stmt{Op: api.StSet, P: "é", X: "X"})},
		),
		function("while", nil, api.Stmt{Op: -7, Else: block(call("main"))}),
		function("main ", []string{"main", "main "}))
	wantCheck(t, "no text", p, api.Fault{})
	wantNames(t, "Vars", resolve.Vars(p.Funcs[0]), "X", "if", "\xff")
	wantNames(t, "Vars", resolve.Vars(p.Funcs[2]), "main", "main ")
	wantNames(t, "Props", resolve.Props(p), "\x00", "a", "a b", "p", "s", "é")
	p.Funcs[1].Body[0].Else[0].A = []api.Operand{{Kind: -1}}
	wantCheck(t, "no text", p, api.Fault{Code: api.ErrResolveArity, At: 10002})
	p.Funcs[0].Body[0].A = []api.Operand{{Kind: api.OpFun, Name: "main\x00"}}
	wantCheck(t, "no text", p, api.Fault{Code: api.ErrResolveFun, At: 1})
	p.Funcs[0].Body[0].Props = []string{"a", "a b", "a"}
	wantCheck(t, "no text", p, api.Fault{Code: api.ErrResolveTwice, At: 1})
}

// P5.2: a function's variables: of its parameters, of X and Y, of operands; not of functions, properties or its name.
func TestVars(t *testing.T) {
	for s, w := range map[string]string{
		"fun f() { }":            "",
		"fun f(b, a, c) { }":     "a b c",
		"fun f() { x = 1; }":     "x",
		"fun f() { x = y; }":     "x y",
		"fun f() { x = y + z; }": "x y z",
		"fun f() { x = y.p; }":   "x y",
		"fun f() { y.p = z; }":   "y z",
		"fun f() { x = call g(y, z, &h, null, true, 1); }":                     "x y z",
		"fun f() { x = y(z, w); }":                                             "w x y z",
		"fun f() { x = in; }":                                                  "x",
		"fun f() { out x; }":                                                   "x",
		"fun f() { return x; }":                                                "x",
		"fun f() { if x { } }":                                                 "x",
		"fun f() { while x { } }":                                              "x",
		"fun f() { x = new { p : y, q : z } proto w; }":                        "w x y z",
		"fun f(x) { x = x; x = x + x; x.x = x; x = x(x); }":                    "x",
		"fun f(f) { g = &f; }":                                                 "f g",
		"fun f() { if a { b = c; } else { d = e; } out f; }":                   "a b c d e f",
		"fun f(d) { while c { if b { while a { e = f; } } else { g = h; } } }": "a b c d e f g h",
		"fun f(z, Z, z0, z_, zz, a) { z1 = B; A = z10; }":                      "A B Z a z z0 z1 z10 z_ zz",
	} {
		wantNames(t, s, resolve.Vars(parsed(t, s).Funcs[0]), strings.Fields(w)...)
	}
}

// P5.2: a program's properties: of those that are got and set, and of new objects; not of functions, variables and signs.
func TestProps(t *testing.T) {
	for s, w := range map[string]string{
		"fun f() { }": "",
		"fun f(a) { x = y; x = y + z; x = call g(a); }":                                       "",
		"fun f() { x = y(z); x = in; out x; return x; }":                                      "",
		"fun f() { x = y.p; }":                                                                "p",
		"fun f() { x.p = y; }":                                                                "p",
		"fun f() { x = new { q : 1, p : r } proto s; }":                                       "p q",
		"fun f() { x = y.q; x.p = 1; x = y.q; x.q = x; }":                                     "p q",
		"fun f() { x = y.c; } fun g() { x.b = 1; } fun h() { x = new { a : 1 } proto null; }": "a b c",
		"fun f() { if x { x = y.c; } else { x = y.b; } while x { x.a = 1; } }":                "a b c",
		"fun f() { x = y.z; x.Z = 1; x = new { z0 : 1, z_ : 1, zz : 1, a : 1 } proto 1; }":    "Z a z z0 z_ zz",
		"fun f() { f.f = f; } fun f() { f = f.f; f = new { f : f } proto f; }":                "f",
	} {
		wantNames(t, s, resolve.Props(parsed(t, s)), strings.Fields(w)...)
	}
}

// P5.2: names rise by their bytes.
func TestRising(t *testing.T) {
	risen := []string{"\x00", "\x00\x00", " ", "0", "10", "9", "A", "Z", "_", "a", "a\x00", "a0", "aa", "ab", "b", "z", "\x7f", "\x80", "é", "\xff", "\xff\x00"}
	mixed := slices.Clone(risen)
	slices.Reverse(mixed)
	for range mixed {
		mixed = slices.Concat(mixed[5:], mixed[:5])
		wantNames(t, "parameters", resolve.Vars(function("f", mixed)), risen...)
		wantNames(t, "Props", resolve.Props(mainOf(made(null, mixed...))), risen...)
		var vars, props []api.Stmt
		for _, name := range mixed {
			vars = append(vars, api.Stmt{A: []api.Operand{variable(name)}}, api.Stmt{X: name}, api.Stmt{Y: name})
			props = append(props, branch(nil, block(api.Stmt{Op: api.StGet, P: name})), api.Stmt{Op: api.StSet, P: name})
		}
		wantNames(t, "statements", resolve.Vars(function("f", nil, vars...)), risen...)
		wantNames(t, "statements", resolve.Props(mainOf(props...)), risen...)
	}
}

// full is a program all of whose parts say something.
func full() api.Program {
	s := func(op int, blocks ...[]api.Stmt) api.Stmt {
		r := branch(blocks...)
		r.Op, r.X, r.Y, r.P = op, "x"+strconv.Itoa(op), "y", "p"
		r.A = []api.Operand{num, fun("f"), variable("v"), {Kind: -1}}
		r.Props = []string{"r", "q"}
		return r
	}
	return program(
		function("f", []string{"d", "c", "b", "a"}, s(api.StNew), s(api.StIf, block(s(api.StGet)), block(s(api.StSet)))),
		function("main", nil, s(api.StMove)))
}

// R4: an argument is not changed, and an answer shares no memory with it, or with another answer.
func TestNoMemoryIsShared(t *testing.T) {
	p := full()
	first, second := resolve.Vars(p.Funcs[0]), resolve.Vars(p.Funcs[0])
	props, again := resolve.Props(p), resolve.Props(p)
	wantCheck(t, "full", p, api.Fault{})
	resolve.Fun(p, "main")
	if !reflect.DeepEqual(p, full()) {
		t.Errorf("the argument is changed: %v", p)
	}
	for _, l := range [][]string{first, props} {
		for i := range l {
			l[i] = "spoilt"
		}
	}
	if !reflect.DeepEqual(p, full()) {
		t.Errorf("the argument is changed with an answer: %v", p)
	}
	for i := range p.Funcs[0].Params {
		p.Funcs[0].Params[i] = "spoilt"
	}
	p.Funcs[0].Body[0].Props[0] = "spoilt"
	wantNames(t, "Vars", second, "a", "b", "c", "d", "v", "x2", "x3", "x4", "x9", "y")
	wantNames(t, "Props", again, "p", "q", "r")
}

// R5: lists that are empty or nil are the same, and what lies behind a list's end is none of it.
func TestEmptyAndNilAreTheSame(t *testing.T) {
	names, operands, stmts := []string{"h", "h"}, []api.Operand{fun("none")}, block(move(fun("none")))
	for what, p := range map[string]api.Program{
		"nil":     program(function("main", nil, branch(), call("main"), made(null)), function("f", nil)),
		"empty":   program(api.Func{Name: "main", Params: []string{}, Body: block(branch(block(), block()), api.Stmt{Op: api.StCall, X: "x", P: "main", A: []api.Operand{}}, api.Stmt{Op: api.StNew, X: "x", A: []api.Operand{null}, Props: []string{}})}, api.Func{Name: "f", Body: []api.Stmt{}}),
		"cut off": program(api.Func{Name: "main", Params: names[:0], Body: block(branch(stmts[:0], stmts[1:]), api.Stmt{Op: api.StCall, X: "x", P: "main", A: operands[:0]}, api.Stmt{Op: api.StNew, X: "x", A: []api.Operand{null}, Props: names[2:]})}, api.Func{Name: "f", Params: names[:0], Body: stmts[:0]}),
	} {
		wantCheck(t, what, p, api.Fault{})
		wantNames(t, what, resolve.Vars(p.Funcs[0]), "c", "x")
		wantNames(t, what, resolve.Vars(p.Funcs[1]))
		wantNames(t, what, resolve.Props(p))
	}
}

// R1: 2^16 blocks in one another, by Then and by Else in turn, with a name behind each.
func TestDeep(t *testing.T) {
	const deep = 1 << 16
	nest := func(innermost api.Stmt) []api.Stmt {
		l := block(innermost)
		for i := range deep {
			s := branch(l)
			if i%2 == 0 {
				s = branch(nil, l)
			}
			l = block(s, move(fun("main")))
		}
		return l
	}
	p := mainOf(nest(api.Stmt{Op: api.StGet, X: "x", Y: "y", P: "p"})...)
	wantCheck(t, "deep", p, api.Fault{})
	wantNames(t, "deep", resolve.Vars(p.Funcs[0]), "c", "x", "y")
	wantNames(t, "deep", resolve.Props(p), "p")
	p = mainOf(nest(call("none"))...)
	wantCheck(t, "deep", p, api.Fault{Code: api.ErrResolveFun, At: deep + 1})
	p = mainOf(append(nest(move(num)), made(null, "p", "p"))...)
	wantCheck(t, "behind the deep one", p, api.Fault{Code: api.ErrResolveTwice, At: 2*deep + 2})
}

// R1: very many functions, parameters, statements, operands and properties.
func TestLong(t *testing.T) {
	const long = 100000
	names := make([]string, long)
	funcs := make([]api.Func, long)
	stmts := make([]api.Stmt, long)
	for i := range names {
		names[i] = "n" + strconv.Itoa(long+i)
		funcs[i] = function(names[i], names[:1])
	}
	for i := range stmts {
		stmts[i] = call(names[long-1-i], variable(names[i]))
	}
	p := program(append(funcs, function("main", nil, stmts...), function("f", names, made(null, names...)))...)
	wantCheck(t, "long", p, api.Fault{})
	if got := resolve.Fun(p, "main"); got != long {
		t.Errorf("Fun %v", got)
	}
	wantNames(t, "long", resolve.Vars(p.Funcs[long]), append(slices.Clone(names), "x")...)
	wantNames(t, "long", resolve.Vars(p.Funcs[long+1]), append(slices.Clone(names), "x")...)
	wantNames(t, "long", resolve.Props(p), names...)
	stmts[long-1] = call("none")
	wantCheck(t, "long", p, api.Fault{Code: api.ErrResolveFun, At: 10000*long + long})
	stmts[long-1] = move(num)
	p.Funcs[long+1].Params = append(slices.Clone(names), names[0])
	wantCheck(t, "long", p, api.Fault{Code: api.ErrResolveTwice, At: 10000 * (long + 1)})
	p.Funcs[long+1].Params = names
	p.Funcs[long+1].Body = block(made(null, append(slices.Clone(names), names[long/2])...))
	wantCheck(t, "long", p, api.Fault{Code: api.ErrResolveTwice, At: 10000*(long+1) + 1})
}
