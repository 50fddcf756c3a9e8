package parse_test

import (
	"protean/api"
	"protean/lex"
	"protean/parse"
	"reflect"
	"slices"
	"strings"
	"testing"
	"unsafe"
)

var keywords = strings.Fields("fun out return if else while new proto call in null true false")

// alike compares without package parse's own Same: an empty list is as nil.
func alike(a, b api.Program) bool {
	return reflect.DeepEqual(withoutEmpties(a), withoutEmpties(b))
}

func withoutEmpties(p api.Program) api.Program {
	var funcs []api.Func
	for _, f := range p.Funcs {
		funcs = append(funcs, api.Func{Name: f.Name, Params: append([]string(nil), f.Params...), Body: blockWithoutEmpties(f.Body)})
	}
	return api.Program{Funcs: funcs}
}

func blockWithoutEmpties(l []api.Stmt) []api.Stmt {
	var out []api.Stmt
	for _, s := range l {
		s.A = append([]api.Operand(nil), s.A...)
		s.Props = append([]string(nil), s.Props...)
		s.Then, s.Else = blockWithoutEmpties(s.Then), blockWithoutEmpties(s.Else)
		out = append(out, s)
	}
	return out
}

func wantProgram(t *testing.T, s string, want ...api.Func) {
	t.Helper()
	p, f := parse.Parse(s)
	if f != (api.Fault{}) || !alike(p, api.Program{Funcs: want}) {
		t.Errorf("Parse(%.80q): %v, %v; want %v", s, p, f, want)
	}
}

// wantStmts: a function's block is just that.
func wantStmts(t *testing.T, block string, want ...api.Stmt) {
	t.Helper()
	wantProgram(t, "fun f() {"+block+"}", api.Func{Name: "f", Body: want})
}

func wantFault(t *testing.T, s string, code api.Errno, at int) {
	t.Helper()
	p, f := parse.Parse(s)
	if f != (api.Fault{Code: code, At: at}) || !alike(p, api.Program{}) {
		t.Errorf("Parse(%.80q): %v, %v; want %v at %v", s, p, f, code, at)
	}
}

// wantFaultAtMark: the fault is where the first ^ stands, which is no part of the source.
func wantFaultAtMark(t *testing.T, s string, code api.Errno) {
	t.Helper()
	at := strings.Index(s, "^")
	wantFault(t, s[:at]+s[at+1:], code, at)
}

func tokensOf(t *testing.T, s string) []api.Token {
	t.Helper()
	l, f := lex.Lex(s)
	if f != (api.Fault{}) {
		t.Fatal(s, f)
	}
	return l
}

var (
	null  = api.Operand{Kind: api.OpNull}
	yes   = api.Operand{Kind: api.OpBool, N: 1}
	no    = api.Operand{Kind: api.OpBool}
	one   = api.Operand{Kind: api.OpNum, N: 1}
	two   = api.Operand{Kind: api.OpNum, N: 2}
	varA  = api.Operand{Kind: api.OpVar, Name: "a"}
	varB  = api.Operand{Kind: api.OpVar, Name: "b"}
	funG  = api.Operand{Kind: api.OpFun, Name: "g"}
	moved = api.Stmt{Op: api.StMove, X: "x", A: []api.Operand{one}}
)

// P2.1: ordinary programs.

func TestEachStatement(t *testing.T) {
	for s, want := range map[string]api.Stmt{
		"out a;":                                {Op: api.StOut, A: []api.Operand{varA}},
		"return a;":                             {Op: api.StReturn, A: []api.Operand{varA}},
		"if a {}":                               {Op: api.StIf, A: []api.Operand{varA}},
		"if a {} else {}":                       {Op: api.StIf, A: []api.Operand{varA}},
		"if a { x = 1; }":                       {Op: api.StIf, A: []api.Operand{varA}, Then: []api.Stmt{moved}},
		"if a {} else { x = 1; }":               {Op: api.StIf, A: []api.Operand{varA}, Else: []api.Stmt{moved}},
		"if a { x = 1; x = 1; } else { x = 1;}": {Op: api.StIf, A: []api.Operand{varA}, Then: []api.Stmt{moved, moved}, Else: []api.Stmt{moved}},
		"while a {}":                            {Op: api.StWhile, A: []api.Operand{varA}},
		"while a { x = 1; x = 1; }":             {Op: api.StWhile, A: []api.Operand{varA}, Then: []api.Stmt{moved, moved}},
		"x.p = a;":                              {Op: api.StSet, X: "x", P: "p", A: []api.Operand{varA}},
		"x = in;":                               {Op: api.StIn, X: "x"},
		"x = call g();":                         {Op: api.StCall, X: "x", P: "g"},
		"x = call g(a, 1);":                     {Op: api.StCall, X: "x", P: "g", A: []api.Operand{varA, one}},
		"x = new {} proto a;":                   {Op: api.StNew, X: "x", A: []api.Operand{varA}},
		"x = new {p: 1, q: 2} proto a;":         {Op: api.StNew, X: "x", Props: []string{"p", "q"}, A: []api.Operand{one, two, varA}},
		"x = y.p;":                              {Op: api.StGet, X: "x", Y: "y", P: "p"},
		"x = y();":                              {Op: api.StApply, X: "x", Y: "y"},
		"x = y(a, 1);":                          {Op: api.StApply, X: "x", Y: "y", A: []api.Operand{varA, one}},
		"x = a;":                                {Op: api.StMove, X: "x", A: []api.Operand{varA}},
		"x = a + 1;":                            {Op: api.StArith, X: "x", P: "+", A: []api.Operand{varA, one}},
		"x = 2 - a;":                            {Op: api.StArith, X: "x", P: "-", A: []api.Operand{two, varA}},
		"x = 2 * 1;":                            {Op: api.StArith, X: "x", P: "*", A: []api.Operand{two, one}},
		"x = a < b;":                            {Op: api.StArith, X: "x", P: "<", A: []api.Operand{varA, varB}},
		"x = a = b;":                            {Op: api.StArith, X: "x", P: "=", A: []api.Operand{varA, varB}},
		"x = &g = null;":                        {Op: api.StArith, X: "x", P: "=", A: []api.Operand{funG, null}},
	} {
		wantStmts(t, s, want)
		wantStmts(t, s+"x = 1;"+s, want, moved, want)
	}
}

// An if, or a while, goes on to no more than its own blocks.
func TestBlocksInBlocks(t *testing.T) {
	wantStmts(t, "if a { if b {} } else { while 1 {} }", api.Stmt{Op: api.StIf, A: []api.Operand{varA},
		Then: []api.Stmt{{Op: api.StIf, A: []api.Operand{varB}}}, Else: []api.Stmt{{Op: api.StWhile, A: []api.Operand{one}}}})
	wantStmts(t, "while a { if b {} else {} x = 1; } x = 1;", api.Stmt{Op: api.StWhile, A: []api.Operand{varA},
		Then: []api.Stmt{{Op: api.StIf, A: []api.Operand{varB}}, moved}}, moved)
	wantFaultAtMark(t, "fun f() { if a {} else {} ^else {} }", api.ErrParse)
	wantFaultAtMark(t, "fun f() { while a {} ^else {} }", api.ErrParse)
	wantFaultAtMark(t, "fun f() { if a {} else ^if b {} }", api.ErrParse)
	wantFaultAtMark(t, "fun f() { ^{ } }", api.ErrParse)
	wantFaultAtMark(t, "fun f() { if a ^x = 1; }", api.ErrParse)
}

func TestEachOperandInEachPlace(t *testing.T) {
	for text, o := range map[string]api.Operand{
		"null": null, "true": yes, "false": no, "a": varA, "&g": funG, "& g": funG,
		"0": {Kind: api.OpNum}, "1": one, "007": {Kind: api.OpNum, N: 7}, "000000000": {Kind: api.OpNum},
		"999999999": {Kind: api.OpNum, N: 999999999}, "010": {Kind: api.OpNum, N: 10}, "089": {Kind: api.OpNum, N: 89},
		"nul": {Kind: api.OpVar, Name: "nul"}, "True": {Kind: api.OpVar, Name: "True"}, "z_9": {Kind: api.OpVar, Name: "z_9"},
	} {
		alone := []api.Operand{o}
		for s, want := range map[string]api.Stmt{
			"out @;":                       {Op: api.StOut, A: alone},
			"return @;":                    {Op: api.StReturn, A: alone},
			"if @ {}":                      {Op: api.StIf, A: alone},
			"while @ {}":                   {Op: api.StWhile, A: alone},
			"x.p = @;":                     {Op: api.StSet, X: "x", P: "p", A: alone},
			"x = call g(@);":               {Op: api.StCall, X: "x", P: "g", A: alone},
			"x = y(@);":                    {Op: api.StApply, X: "x", Y: "y", A: alone},
			"x = new {} proto @;":          {Op: api.StNew, X: "x", A: alone},
			"x = new {p: @} proto 1;":      {Op: api.StNew, X: "x", Props: []string{"p"}, A: []api.Operand{o, one}},
			"x = @;":                       {Op: api.StMove, X: "x", A: alone},
			"x = @ + 1;":                   {Op: api.StArith, X: "x", P: "+", A: []api.Operand{o, one}},
			"x = 1 - @;":                   {Op: api.StArith, X: "x", P: "-", A: []api.Operand{one, o}},
			"x = call g(1, @);":            {Op: api.StCall, X: "x", P: "g", A: []api.Operand{one, o}},
			"x = new {p: 1,q:@} proto @ ;": {Op: api.StNew, X: "x", Props: []string{"p", "q"}, A: []api.Operand{one, o, o}},
		} {
			wantStmts(t, strings.ReplaceAll(s, "@", text), want)
		}
	}
}

func TestLists(t *testing.T) {
	for n := range 5 {
		var names, props []string
		var values []api.Operand
		for i := range n {
			name := string(rune('a' + i))
			names = append(names, name)
			props = append(props, name+":"+name)
			values = append(values, api.Operand{Kind: api.OpVar, Name: name})
		}
		list := strings.Join(names, ",")
		wantProgram(t, "fun f("+list+") {}", api.Func{Name: "f", Params: names})
		wantStmts(t, "x = y("+list+");", api.Stmt{Op: api.StApply, X: "x", Y: "y", A: values})
		wantStmts(t, "x = call g("+list+");", api.Stmt{Op: api.StCall, X: "x", P: "g", A: values})
		wantStmts(t, "x = new {"+strings.Join(props, ",")+"} proto 1;",
			api.Stmt{Op: api.StNew, X: "x", Props: names, A: append(values, one)})
	}
	for _, s := range []string{
		"fun f(^,) {}", "fun f(a,^) {}", "fun f(a ^b) {}", "fun f(a,^, b) {}", "fun f(^1) {}", "fun f(a^;) {}", "fun f(^{",
		"fun f() { x = y(^,); }", "fun f() { x = y(a,^); }", "fun f() { x = y(a ^b); }", "fun f() { x = y(a ^}",
		"fun f() { x = call g(^,); }", "fun f() { x = call g(1,^); }", "fun f() { x = call g(1 ^2); }", "fun f() { x = call g^;",
		"fun f() { x = new {^,} proto a; }", "fun f() { x = new {p: a,^} proto a; }", "fun f() { x = new {p: a ^q: b} proto a; }",
		"fun f() { x = new {p^} proto a; }", "fun f() { x = new {p: ^} proto a; }", "fun f() { x = new {p ^= a} proto a; }",
		"fun f() { x = new {} ^a; }", "fun f() { x = new ^a; }", "fun f() { x = new {^1: a} proto a; }", "fun f() { x = new {p: a^) proto a; }",
		"fun f() { x = new {}^; }", "fun f() { x = new {} proto ^; }", "fun f() { x = new {} proto a ^+ b; }",
	} {
		wantFaultAtMark(t, s, api.ErrParse)
	}
	// A name may stand twice: that is of no moment here.
	wantProgram(t, "fun f(a, a) {} fun f() {}", api.Func{Name: "f", Params: []string{"a", "a"}}, api.Func{Name: "f"})
	wantStmts(t, "x = new {p: 1, p: 2} proto null;", api.Stmt{Op: api.StNew, X: "x", Props: []string{"p", "p"}, A: []api.Operand{one, two, null}})
}

func TestPrograms(t *testing.T) {
	wantProgram(t, "")
	wantProgram(t, " # nothing\n")
	wantProgram(t, "fun f(a) { x = a.p; return x; }", api.Func{Name: "f", Params: []string{"a"}, Body: []api.Stmt{
		{Op: api.StGet, X: "x", Y: "a", P: "p"}, {Op: api.StReturn, A: []api.Operand{{Kind: api.OpVar, Name: "x"}}}}})
	wantProgram(t, "fun f(){}fun g(a){x=1;}fun h(){}", api.Func{Name: "f"},
		api.Func{Name: "g", Params: []string{"a"}, Body: []api.Stmt{moved}}, api.Func{Name: "h"})
}

// P2.1: the first token with which no rule goes on.

func TestFaultsPlaces(t *testing.T) {
	for _, s := range []string{
		"fun f( ^{", "^x", "^f() {}", "fun ^() {}", "fun f^{}", "fun f() ^;", "fun f() {} ^;", "fun f() {}^}", "^{}", "fun f() ^fun", "fun f() {^fun",
		"fun f() { ^else {} }", "fun f() { ^; }", "fun f() { ^1 = 1; }", "fun f() { ^& = 1; }", "fun f() { ^null; }", "fun f() { ^new {} }",
		"fun f() { x^; }", "fun f() { x ^y; }", "fun f() { x^(); }", "fun f() { x^+ 1; }", "fun f() { x = ^; }", "fun f() { x = ^+; }", "fun f() { x = ^{",
		"fun f() { x = 1 ^1; }", "fun f() { x = 5^.p; }", "fun f() { x = 5^(); }", "fun f() { x = &g^(); }", "fun f() { x = &g^.p; }", "fun f() { x = null^.p; }",
		"fun f() { x = true^(1); }", "fun f() { x = a + b ^+ c; }", "fun f() { x = a + ^; }", "fun f() { x = a + b^.p; }", "fun f() { x = a + b^(); }",
		"fun f() { x = a ^: b; }", "fun f() { x = a ^& b; }", "fun f() { x = ^-1; }", "fun f() { x = a - ^-1; }", "fun f() { x = a <^= b; }", "fun f() { x =^= b = c; }",
		"fun f() { x = &^1; }", "fun f() { x = &^& f; }", "fun f() { x = y.p^.q; }", "fun f() { x = y.p ^+ 1; }", "fun f() { x = y.p^(); }", "fun f() { x = y.^1; }",
		"fun f() { x = y() ^+ 1; }", "fun f() { x = y()^.p; }", "fun f() { x = y()^(); }", "fun f() { x = in ^+ 1; }", "fun f() { x = in^.p; }", "fun f() { x = 1 + ^in; }",
		"fun f() { x = call ^1(); }", "fun f() { x = call y^.p(); }", "fun f() { x = call g() ^+ 1; }", "fun f() { x = call ^&g(); }",
		"fun f() { x.p^; }", "fun f() { x.p^.q = 1; }", "fun f() { x.^1 = 1; }", "fun f() { x.p = ^in; }", "fun f() { x.p = 1 ^+ 1; }", "fun f() { x.p = y^.q; }", "fun f() { x.p = y^(); }",
		"fun f() { x.p = ^new {} proto null; }", "fun f() { x.p = ^call g(); }",
		"fun f() { out ^; }", "fun f() { out 1 ^+ 1; }", "fun f() { out ^in; }", "fun f() { out ^= 1; }", "fun f() { out a^.p; }",
		"fun f() { return^; }", "fun f() { return a ^+ 1; }", "fun f() { return a^}", "fun f() { return ^call g(); }",
		"fun f() { if ^{} }", "fun f() { if a^; }", "fun f() { if a ^< b {} }", "fun f() { if a {}^; }", "fun f() { if ^(a) {} }", "fun f() { if a {} else ^; }",
		"fun f() { while ^{} }", "fun f() { while a^; }", "fun f() { while a ^= b {} }", "fun f() { while ^while {} }",
	} {
		wantFaultAtMark(t, s, api.ErrParse)
	}
}

func TestAKeywordIsNoName(t *testing.T) {
	for _, k := range keywords {
		for _, s := range []string{
			"fun ^@() {}", "fun f(^@) {}", "fun f(a, ^@) {}", "fun f() { x.^@ = 1; }", "fun f() { x = call ^@(); }", "fun f() { x = y.^@; }",
			"fun f() { x = &^@; }", "fun f() { out &^@; }", "fun f() { x = new {^@: 1} proto null; }", "fun f() { x = new {p: 1, ^@: 2} proto null; }",
		} {
			wantFaultAtMark(t, strings.ReplaceAll(s, "@", k), api.ErrParse)
		}
		if k != "fun" {
			wantFaultAtMark(t, "^"+k+" f() {}", api.ErrParse)
		}
		if !slices.Contains([]string{"null", "true", "false"}, k) {
			for _, s := range []string{"out ^@;", "return ^@;", "if ^@ {}", "while ^@ {}", "x.p = ^@;", "x = call g(^@);", "x = 1 + ^@;", "x = y(1, ^@);", "x = new {} proto ^@;", "x = new {p: ^@} proto 1;"} {
				wantFaultAtMark(t, "fun f() {"+strings.ReplaceAll(s, "@", k)+"}", api.ErrParse)
			}
		}
		if !slices.Contains([]string{"out", "return", "if", "while"}, k) {
			wantFaultAtMark(t, "fun f() { ^"+k+" = 1; }", api.ErrParse)
			wantFaultAtMark(t, "fun f() { ^"+k+".p = 1; }", api.ErrParse)
		}
		for _, name := range []string{k + "s", k + "_", k + "1", strings.ToUpper(k), strings.ToUpper(k[:1]) + k[1:], k + k} {
			wantProgram(t, "fun "+name+"("+name+") { "+name+" = "+name+"."+name+"; }",
				api.Func{Name: name, Params: []string{name}, Body: []api.Stmt{{Op: api.StGet, X: name, Y: name, P: name}}})
		}
	}
}

// P2.1: blocks in one another.

// nested is n blocks in one another, the function's among them; the place of the last one's sign.
func nested(n int, heads ...string) (string, int) {
	s := "fun f() {"
	for i := 1; i < n; i++ {
		s += heads[i%len(heads)] + "{"
	}
	return s + strings.Repeat("}", n), len(s) - 1
}

func TestDepth(t *testing.T) {
	for _, heads := range [][]string{{"if a"}, {"while a"}, {"if a {} else "}, {"while 1", "if null"}, {"x = 1; if a {} if a "}} {
		for n := 1; n <= 32; n++ {
			s, _ := nested(n, heads...)
			if p, f := parse.Parse(s); f != (api.Fault{}) || len(p.Funcs) != 1 {
				t.Error(n, heads, f)
			}
		}
		for n := 33; n < 40; n++ {
			s, _ := nested(n, heads...)
			_, at := nested(33, heads...)
			if heads[0] == "if a {} else " {
				// The empty block ahead of else is in 32 blocks, too.
				at -= len("} else {")
			}
			if heads[0] == "x = 1; if a {} if a " {
				at -= len("} if a {")
			}
			wantFault(t, s, api.ErrParseDeep, at)
			wantFault(t, "fun g() {} "+s, api.ErrParseDeep, at+11)
			wantFault(t, s[:at+1], api.ErrParseDeep, at)
			wantFault(t, s[:at], api.ErrParse, at)
			wantFault(t, s[:at]+";", api.ErrParse, at)
			wantFault(t, "fun f(,) {} "+s, api.ErrParse, 6)
		}
	}
}

func TestDepthIsOfBlocksThatAreUnderWay(t *testing.T) {
	s, _ := nested(32, "if a")
	full := s[len("fun f() {") : len(s)-1]
	all := "fun f() {" + full + full + "while a {} if a {} else {}" + "} " + s
	if p, f := parse.Parse(all); f != (api.Fault{}) || len(p.Funcs) != 2 || len(p.Funcs[0].Body) != 4 {
		t.Error(f)
	}
	// The braces of new are no block.
	inmost := strings.Replace(s, "{}", "{ x = new {p: 1} proto null; }", 1)
	if _, f := parse.Parse(inmost); f != (api.Fault{}) {
		t.Error(f)
	}
}

// An else's block is as deep as the one ahead of it.
func TestDepthOfElse(t *testing.T) {
	s, at := nested(32, "if a")
	wantFault(t, s[:at+1]+"if a ", api.ErrParse, at+1+len("if a "))
	wantFault(t, s[:at+1]+"if a {", api.ErrParseDeep, at+1+len("if a "))
	up := s[:at+1] + "} else {"
	if _, f := parse.Parse(up + strings.Repeat("}", 32)); f != (api.Fault{}) {
		t.Error(f)
	}
	wantFault(t, up+"while a {", api.ErrParseDeep, len(up)+len("while a "))
}

// P2.1: how many statements.

func TestHowManyStatements(t *testing.T) {
	row := func(n int) string { return strings.Repeat("x=1;", n) }
	for _, s := range []string{
		"fun f() {" + row(2000) + "}",
		"fun f() {" + row(1000) + "} fun g() {} fun h() {" + row(1000) + "}",
		"fun f() {" + strings.Repeat("if a{x=1;}else{x=1;}while a{}", 500) + "}",
	} {
		p, f := parse.Parse(s)
		if n := count(p); f != (api.Fault{}) || n != 2000 {
			t.Error(n, f)
		}
		if strings.HasSuffix(s, "a{}}") {
			// The one above stands in a block of the last one, or behind it.
			wantFaultAtMark(t, s[:len(s)-2]+"^x=1;}}", api.ErrParseMany)
		}
		for _, more := range []string{"x=1;", "out 1;", "return 1;", "if a {}", "while a {}", "y.p=1;", "y", "if", "x x", "out out"} {
			wantFaultAtMark(t, s[:len(s)-1]+"^"+more+"}", api.ErrParseMany)
			wantFaultAtMark(t, s+"fun k() {}  fun l(a) { ^"+more+"}", api.ErrParseMany)
		}
		for _, other := range []string{";", "1", "else", "{", "fun", "null", "in", "&", "="} {
			wantFaultAtMark(t, s[:len(s)-1]+"^"+other+"}", api.ErrParse)
		}
		wantFault(t, s[:len(s)-1], api.ErrParse, len(s)-1)
		wantFaultAtMark(t, s+"^x", api.ErrParse)
		if p, f := parse.Parse(s + "fun k(a) {}"); f != (api.Fault{}) || count(p) != 2000 {
			t.Error(f)
		}
	}
	wantFaultAtMark(t, "fun f() {"+row(1999)+"if a {} else ^; x=1;x=1;}", api.ErrParse)
	wantFaultAtMark(t, "fun f() {"+row(1999)+"if a { ^x = 1; } }", api.ErrParseMany)
	wantFaultAtMark(t, "fun f() {"+row(1999)+"if a {} else { ^return 1; } }", api.ErrParseMany)
	wantFaultAtMark(t, "fun f() { x ^1;"+row(2001)+"}", api.ErrParse)
	wantFaultAtMark(t, "fun f() {"+row(2000)+"^x=1; x x}", api.ErrParseMany)
}

func count(p api.Program) int {
	n := 0
	for _, f := range p.Funcs {
		n += countBlock(f.Body)
	}
	return n
}

func countBlock(l []api.Stmt) int {
	n := len(l)
	for _, s := range l {
		n += countBlock(s.Then) + countBlock(s.Else)
	}
	return n
}

// Of both limits the one that comes first.
func TestLimitsFromFrontToBack(t *testing.T) {
	deep, at := nested(33, "if a") // of 32 statements
	block, at := deep[len("fun f() {"):], at-len("fun f() {")
	for n := 1960; n <= 2000; n++ {
		row := "fun f() {" + strings.Repeat("x=1;", n)
		if n+32 <= 2000 {
			wantFault(t, row+block, api.ErrParseDeep, len(row)+at)
		} else {
			wantFault(t, row+block, api.ErrParseMany, len(row)+(2000-n)*len("if a{"))
		}
	}
}

// P2.1, of Read: what tokens may be.

const whole = "fun f(a, b) { x = a.p; a.q = 3; z = new {p: x, q: null} proto b; y = call f(x, &f); y = x(true); x = in; out x; if x { return y; } else { x = y; } while false { } x = x * 007; } fun g() {}"

func wantReadFault(t *testing.T, l []api.Token, end int, want api.Fault) {
	t.Helper()
	if p, f := parse.Read(l, end); f != want || !alike(p, api.Program{}) {
		t.Errorf("Read(%v, %v): %v, %v; want %v", l, end, p, f, want)
	}
}

func TestReadOfNothing(t *testing.T) {
	for _, end := range []int{0, 7, -1} {
		for _, l := range [][]api.Token{nil, {}} {
			if p, f := parse.Read(l, end); f != (api.Fault{}) || len(p.Funcs) != 0 {
				t.Error(p, f)
			}
		}
	}
}

func TestReadOfTooFew(t *testing.T) {
	l := tokensOf(t, whole)
	first := 0 // how many tokens the first function has
	for i, x := range l {
		if i > 0 && x.Text == "fun" {
			first = i
		}
	}
	for n := range l {
		for _, end := range []int{len(whole), 0, -5, 1 << 40} {
			if p, f := parse.Read(l[:n], end); n == 0 || n == first {
				if f != (api.Fault{}) || len(p.Funcs) != min(n, 1) {
					t.Error(n, p, f)
				}
			} else {
				wantReadFault(t, l[:n], end, api.Fault{Code: api.ErrParse, At: end})
			}
		}
	}
}

// The places of tokens are told as they are, but are of no other moment.
func TestReadTellsTokensPlaces(t *testing.T) {
	l := tokensOf(t, whole)
	want, _ := parse.Parse(whole)
	for i := range l {
		l[i].At = -i * 3
	}
	if p, f := parse.Read(l, -9); f != (api.Fault{}) || !alike(p, want) {
		t.Error(p, f)
	}
	for i := range l {
		m := slices.Clone(l)
		m[i].Text, m[i].Kind = ":", api.TokSign
		if l[i].Text != ":" {
			wantReadFault(t, m, 0, api.Fault{Code: api.ErrParse, At: -i * 3})
		}
	}
}

func TestReadOfWhatIsNoToken(t *testing.T) {
	l := tokensOf(t, whole)
	for i, x := range l {
		bad := []api.Token{{}, {Kind: 3, Text: x.Text}, {Kind: -1, Text: x.Text}, {Kind: 1 << 40, Text: x.Text}, {Kind: -1}, {Kind: x.Kind},
			{Kind: x.Kind, Text: x.Text + " "}, {Kind: x.Kind, Text: " " + x.Text}, {Kind: x.Kind, Text: x.Text + x.Text + ";"}, {Kind: x.Kind, Text: x.Text + "\x00"},
			{Kind: api.TokNum, Text: "1234567890"}, {Kind: api.TokNum, Text: "0000000001"}, {Kind: api.TokNum, Text: "-1"}, {Kind: api.TokNum, Text: "1a"}, {Kind: api.TokNum},
			{Kind: api.TokWord, Text: "_a"}, {Kind: api.TokWord, Text: "1"}, {Kind: api.TokWord, Text: "a-b"}, {Kind: api.TokWord, Text: ";"},
			{Kind: api.TokWord, Text: "\xff"}, {Kind: api.TokWord, Text: strings.Repeat("a", 65537)}, {Kind: api.TokSign, Text: "?"}, {Kind: api.TokSign, Text: "=="}, {Kind: api.TokSign}}
		for _, kind := range []int{api.TokWord, api.TokNum, api.TokSign} {
			if kind != x.Kind {
				bad = append(bad, api.Token{Kind: kind, Text: x.Text})
			}
		}
		for _, b := range bad {
			b.At = 5000 + i
			wantReadFault(t, slices.Concat(l[:i], []api.Token{b}, l[i+1:]), 9, api.Fault{Code: api.ErrParse, At: b.At})
			wantReadFault(t, slices.Concat(l[:i], []api.Token{b}), 9, api.Fault{Code: api.ErrParse, At: b.At})
		}
	}
	wantReadFault(t, []api.Token{{Kind: api.TokNum, Text: "fun", At: 5}}, 9, api.Fault{Code: api.ErrParse, At: 5})
	wantReadFault(t, append(l, api.Token{Kind: 9, At: 77}), 9, api.Fault{Code: api.ErrParse, At: 77})
}

// What is no token behind a fault is of no moment.
func TestReadStopsAtTheFirstFault(t *testing.T) {
	bad := api.Token{Kind: 9, Text: "?", At: 3}
	s, at := nested(33, "if a")
	wantReadFault(t, append(tokensOf(t, s[:at+1]), bad), 1, api.Fault{Code: api.ErrParseDeep, At: at})
	many := "fun f() {" + strings.Repeat("x=1;", 2000)
	wantReadFault(t, append(tokensOf(t, many+"x"), bad), 1, api.Fault{Code: api.ErrParseMany, At: len(many)})
	wantReadFault(t, append(tokensOf(t, many), bad), 1, api.Fault{Code: api.ErrParse, At: 3})
	wantReadFault(t, append(tokensOf(t, "fun fun"), bad), 1, api.Fault{Code: api.ErrParse, At: 4})
}

// A name may be as long as a word, also where a source so long could not be.
func TestReadOfLongNames(t *testing.T) {
	long := strings.Repeat("n", 65536)
	l := tokensOf(t, "fun f(a) { a = a; }")
	for i := range l {
		if l[i].Text == "a" {
			l[i].Text = long
		}
	}
	p, f := parse.Read(l, 0)
	if f != (api.Fault{}) || p.Funcs[0].Params[0] != long || p.Funcs[0].Body[0].A[0].Name != long {
		t.Error(f)
	}
}

// P2.2

func TestParseTellsLexFaults(t *testing.T) {
	wantFaultAtMark(t, "fun f() { ^? }", api.ErrLexByte)
	wantFaultAtMark(t, "fun f() { x = ^12a; }", api.ErrLexByte)
	wantFaultAtMark(t, "fun f() { x = ^1234567890; }", api.ErrLexByte)
	wantFaultAtMark(t, "^_", api.ErrLexByte)
	// Though a rule ends further ahead.
	wantFaultAtMark(t, "else fun ( ^\xff", api.ErrLexByte)
	wantFault(t, strings.Repeat(" ", 65537), api.ErrLexLong, 0)
	wantFault(t, strings.Repeat("?", 65537), api.ErrLexLong, 0)
	wantFault(t, strings.Repeat(";", 65537), api.ErrLexLong, 0)
	wantFault(t, strings.Repeat(";", 65536), api.ErrParse, 0)
	wantProgram(t, strings.Repeat(" ", 65536))
	full := "fun f(){}" + strings.Repeat("#", 65536-9)
	wantProgram(t, full, api.Func{Name: "f"})
	wantFault(t, full+"#", api.ErrLexLong, 0)
}

// Too few tokens: the fault is at the text's end, behind all blanks and remarks.
func TestParseToTheEnd(t *testing.T) {
	for _, behind := range []string{"", " ", "\n\n", " # a remark", "# a\n "} {
		for _, s := range []string{"fun", "fun f", "fun f(", "fun f(a,", "fun f()", "fun f() {", "fun f() { x", "fun f() { x = 1;", "fun f() { if a {} else", "fun f() { if a {}"} {
			wantFault(t, s+behind, api.ErrParse, len(s+behind))
		}
	}
}

func TestKeyword(t *testing.T) {
	for _, k := range keywords {
		if !parse.Keyword(k) {
			t.Error(k)
		}
		for _, s := range []string{k + " ", " " + k, k + "s", k[1:], k[:len(k)-1], strings.ToUpper(k), k + "\x00", k + k} {
			if parse.Keyword(s) {
				t.Errorf("%q", s)
			}
		}
	}
	for _, s := range []string{"", "x", "for", "main", "undefined", "this", "num", "let", "var", "&", "{", "0", strings.Repeat("in", 40000)} {
		if parse.Keyword(s) {
			t.Errorf("%.20q", s)
		}
	}
}

// changed answers programs each of which differs from p in just one thing.
func changed(p api.Program) []api.Program {
	f := p.Funcs[0]
	out := []api.Program{{}, {Funcs: p.Funcs[:1]}, {Funcs: p.Funcs[1:]}, {Funcs: append(slices.Clone(p.Funcs), api.Func{})},
		{Funcs: []api.Func{p.Funcs[1], p.Funcs[0]}}}
	withFirst := func(g api.Func) {
		out = append(out, api.Program{Funcs: append([]api.Func{g}, p.Funcs[1:]...)})
	}
	for _, g := range []api.Func{{}, {Name: "F", Params: f.Params, Body: f.Body}, {Name: f.Name, Body: f.Body}, {Name: f.Name, Params: f.Params},
		{Name: f.Name, Params: f.Params[:1], Body: f.Body}, {Name: f.Name, Params: []string{f.Params[1], f.Params[0]}, Body: f.Body},
		{Name: f.Name, Params: f.Params, Body: f.Body[1:]}, {Name: f.Name, Params: f.Params, Body: append(slices.Clone(f.Body), api.Stmt{})}} {
		withFirst(g)
	}
	for _, body := range changedBlocks(f.Body) {
		withFirst(api.Func{Name: f.Name, Params: f.Params, Body: body})
	}
	return out
}

// changedBlocks answers blocks that differ from l within one statement.
func changedBlocks(l []api.Stmt) [][]api.Stmt {
	var out [][]api.Stmt
	for i, s := range l {
		var other []api.Stmt
		edit := func(change func(*api.Stmt)) {
			c := s
			c.A, c.Props = slices.Clone(s.A), slices.Clone(s.Props)
			change(&c)
			other = append(other, c)
		}
		edit(func(c *api.Stmt) { c.Op++ })
		edit(func(c *api.Stmt) { c.X += "1" })
		edit(func(c *api.Stmt) { c.Y += "1" })
		edit(func(c *api.Stmt) { c.P += "1" })
		edit(func(c *api.Stmt) { c.A = append(c.A, null) })
		edit(func(c *api.Stmt) { c.Props = append(c.Props, "") })
		edit(func(c *api.Stmt) { c.Then = append(slices.Clone(c.Then), moved) })
		edit(func(c *api.Stmt) { c.Else = append(slices.Clone(c.Else), moved) })
		for k := range s.A {
			edit(func(c *api.Stmt) { c.A[k].Kind++ })
			edit(func(c *api.Stmt) { c.A[k].N++ })
			edit(func(c *api.Stmt) { c.A[k].Name += "1" })
			edit(func(c *api.Stmt) { c.A = slices.Delete(c.A, k, k+1) })
		}
		for k := range s.Props {
			edit(func(c *api.Stmt) { c.Props[k] += "1" })
		}
		for _, block := range changedBlocks(s.Then) {
			edit(func(c *api.Stmt) { c.Then = block })
		}
		for _, block := range changedBlocks(s.Else) {
			edit(func(c *api.Stmt) { c.Else = block })
		}
		for _, c := range other {
			out = append(out, slices.Concat(l[:i], []api.Stmt{c}, l[i+1:]))
		}
	}
	return out
}

func TestSame(t *testing.T) {
	p, _ := parse.Parse(whole)
	q, _ := parse.Parse(whole)
	if !parse.Same(p, q) || !parse.Same(p, p) || !parse.Same(api.Program{}, api.Program{}) {
		t.Error("the same")
	}
	all := changed(p)
	for i, c := range all {
		if parse.Same(p, c) || parse.Same(c, p) {
			t.Error(i, c)
		}
		if !parse.Same(c, c) {
			t.Error(i, c)
		}
	}
	if len(all) < 100 {
		t.Error(len(all))
	}
}

// R5: an empty list is as nil.
func TestSameOfEmptyLists(t *testing.T) {
	stmts := func(s ...api.Stmt) api.Program { return api.Program{Funcs: []api.Func{{Name: "f", Body: s}}} }
	for _, pair := range [][2]api.Program{
		{{}, {Funcs: []api.Func{}}},
		{{Funcs: []api.Func{{}}}, {Funcs: []api.Func{{Params: []string{}, Body: []api.Stmt{}}}}},
		{stmts(api.Stmt{}), stmts(api.Stmt{A: []api.Operand{}, Props: []string{}, Then: []api.Stmt{}, Else: []api.Stmt{}})},
		{stmts(api.Stmt{Then: []api.Stmt{{}}}), stmts(api.Stmt{Then: []api.Stmt{{Else: []api.Stmt{}}}})},
	} {
		if !parse.Same(pair[0], pair[1]) || !parse.Same(pair[1], pair[0]) {
			t.Error(pair)
		}
	}
}

// Programs that no text is are compared as others.
func TestSameOfOddPrograms(t *testing.T) {
	odd := func(op, kind, n int) api.Program {
		return api.Program{Funcs: []api.Func{{Name: "?", Body: []api.Stmt{{Op: op, A: []api.Operand{{Kind: kind, N: n}}}}}}}
	}
	if !parse.Same(odd(-1, 99, -7), odd(-1, 99, -7)) || parse.Same(odd(-1, 99, -7), odd(-2, 99, -7)) ||
		parse.Same(odd(-1, 99, -7), odd(-1, 98, -7)) || parse.Same(odd(0, api.OpNull, 0), odd(0, api.OpNull, 1)) {
		t.Error("odd")
	}
	deep := func(inmost string) api.Program {
		l := []api.Stmt{{X: inmost}}
		for range 1 << 16 {
			l = []api.Stmt{{Op: api.StWhile, Then: l}}
		}
		return api.Program{Funcs: []api.Func{{Body: l}}}
	}
	if !parse.Same(deep("x"), deep("x")) || parse.Same(deep("x"), deep("y")) {
		t.Error("deep")
	}
}

// R3, R4: arguments stay as they are, answers are new memory.

func TestArgumentsStayAndAnswersAreNew(t *testing.T) {
	l := tokensOf(t, whole)
	before := slices.Clone(l)
	p, _ := parse.Read(l, len(whole))
	q, _ := parse.Read(l, len(whole))
	if !slices.Equal(l, before) {
		t.Error("changed:", l)
	}
	mine := map[*byte]bool{}
	for _, x := range l {
		mine[unsafe.StringData(x.Text)] = true
	}
	names := 0
	eachText(p, func(s string) {
		if names++; s != "" && mine[unsafe.StringData(s)] {
			t.Error("shared with a token:", s)
		}
	})
	if names < 50 {
		t.Error(names)
	}
	f := &p.Funcs[0]
	f.Name, f.Params[0] = "changed", "changed"
	for i := range f.Body {
		for k := range f.Body[i].A {
			f.Body[i].A[k] = api.Operand{Kind: 77}
		}
		for k := range f.Body[i].Props {
			f.Body[i].Props[k] = "changed"
		}
		for k := range f.Body[i].Then {
			f.Body[i].Then[k] = api.Stmt{}
		}
		f.Body[i].Op = 77
	}
	again, _ := parse.Parse(whole)
	if !alike(q, again) || alike(p, again) {
		t.Error("shared between answers")
	}
	parse.Same(q, p)
	if !alike(q, again) {
		t.Error("changed by Same")
	}
}

// A list may grow in its place without touching another.
func TestNoTwoListsShare(t *testing.T) {
	p, _ := parse.Parse(whole)
	want, _ := parse.Parse(whole)
	for i := range p.Funcs {
		f := &p.Funcs[i]
		_ = append(f.Params, "more")
		_ = append(f.Body, api.Stmt{Op: 77})
		for k := range f.Body {
			_ = append(f.Body[k].A, api.Operand{Kind: 77})
			_ = append(f.Body[k].Props, "more")
			_ = append(f.Body[k].Then, api.Stmt{Op: 77})
			_ = append(f.Body[k].Else, api.Stmt{Op: 77})
		}
	}
	if !alike(p, want) {
		t.Error(p)
	}
}

func eachText(p api.Program, tell func(string)) {
	for _, f := range p.Funcs {
		tell(f.Name)
		for _, s := range f.Params {
			tell(s)
		}
		eachTextOfBlock(f.Body, tell)
	}
}

func eachTextOfBlock(l []api.Stmt, tell func(string)) {
	for _, s := range l {
		for _, x := range append([]string{s.X, s.Y, s.P}, s.Props...) {
			tell(x)
		}
		for _, o := range s.A {
			tell(o.Name)
		}
		eachTextOfBlock(s.Then, tell)
		eachTextOfBlock(s.Else, tell)
	}
}
