package print_test

import (
	"math"
	"protean/api"
	"protean/parse"
	"protean/print"
	"reflect"
	"slices"
	"strings"
	"testing"
)

var (
	null  = api.Operand{Kind: api.OpNull}
	yes   = api.Operand{Kind: api.OpBool, N: 1}
	no    = api.Operand{Kind: api.OpBool}
	one   = number(1)
	two   = number(2)
	varA  = variable("a")
	varB  = variable("b")
	funG  = api.Operand{Kind: api.OpFun, Name: "g"}
	moved = api.Stmt{Op: api.StMove, X: "x", A: ops(one)}
)

func number(n int) api.Operand { return api.Operand{Kind: api.OpNum, N: n} }

func variable(name string) api.Operand { return api.Operand{Kind: api.OpVar, Name: name} }

func ops(l ...api.Operand) []api.Operand { return l }

// alone is the program of which chapter 3 asks for a statement.
func alone(l ...api.Stmt) api.Program {
	return api.Program{Funcs: []api.Func{{Name: "f", Body: l}}}
}

// wantText: the program has that text, which is parsed as it was.
func wantText(t *testing.T, p api.Program, want string) {
	t.Helper()
	if s := print.Program(p); s != want || !print.May(p) {
		t.Errorf("%.200q, %v; want %.200q", s, print.May(p), want)
	}
	q, f := parse.Parse(want)
	if f != (api.Fault{}) || !parse.Same(p, q) {
		t.Errorf("%.200q: %v; is not parsed as it was", want, f)
	}
}

func wantNone(t *testing.T, what string, p api.Program) {
	t.Helper()
	if s := print.Program(p); s != "" || print.May(p) {
		t.Errorf("%v: %.200q, %v", what, s, print.May(p))
	}
}

// wantStmt: the statement has that text, alone and in a program.
func wantStmt(t *testing.T, s api.Stmt, want string) {
	t.Helper()
	if got := print.Stmt(s); got != want {
		t.Errorf("%.200q; want %.200q", got, want)
	}
	wantText(t, alone(s), "fun f ( ) { "+want+" }\n")
}

func wantNoStmt(t *testing.T, what string, s api.Stmt) {
	t.Helper()
	if got := print.Stmt(s); got != "" {
		t.Errorf("%v: %.200q", what, got)
	}
	wantNone(t, what, alone(s))
}

func statements() map[string]api.Stmt {
	return map[string]api.Stmt{
		"out a ;":                               {Op: api.StOut, A: ops(varA)},
		"return a ;":                            {Op: api.StReturn, A: ops(varA)},
		"if a { }":                              {Op: api.StIf, A: ops(varA)},
		"if a { x = 1 ; }":                      {Op: api.StIf, A: ops(varA), Then: []api.Stmt{moved}},
		"if a { } else { x = 1 ; }":             {Op: api.StIf, A: ops(varA), Else: []api.Stmt{moved}},
		"if a { out 1 ; } else { x = 1 ; }":     {Op: api.StIf, A: ops(varA), Then: []api.Stmt{{Op: api.StOut, A: ops(one)}}, Else: []api.Stmt{moved}},
		"while a { }":                           {Op: api.StWhile, A: ops(varA)},
		"while a { x = 1 ; out 2 ; }":           {Op: api.StWhile, A: ops(varA), Then: []api.Stmt{moved, {Op: api.StOut, A: ops(two)}}},
		"x . p = a ;":                           {Op: api.StSet, X: "x", P: "p", A: ops(varA)},
		"x = in ;":                              {Op: api.StIn, X: "x"},
		"x = call g ( ) ;":                      {Op: api.StCall, X: "x", P: "g"},
		"x = call g ( a ) ;":                    {Op: api.StCall, X: "x", P: "g", A: ops(varA)},
		"x = call g ( a , 1 , b ) ;":            {Op: api.StCall, X: "x", P: "g", A: ops(varA, one, varB)},
		"x = new { } proto a ;":                 {Op: api.StNew, X: "x", A: ops(varA)},
		"x = new { p : 1 } proto a ;":           {Op: api.StNew, X: "x", Props: []string{"p"}, A: ops(one, varA)},
		"x = new { q : 1 , p : b } proto a ;":   {Op: api.StNew, X: "x", Props: []string{"q", "p"}, A: ops(one, varB, varA)},
		"x = new { p : 1 , p : & g } proto 2 ;": {Op: api.StNew, X: "x", Props: []string{"p", "p"}, A: ops(one, funG, two)},
		"x = y . p ;":                           {Op: api.StGet, X: "x", Y: "y", P: "p"},
		"x = y ( ) ;":                           {Op: api.StApply, X: "x", Y: "y"},
		"x = y ( a ) ;":                         {Op: api.StApply, X: "x", Y: "y", A: ops(varA)},
		"x = y ( a , 1 , b ) ;":                 {Op: api.StApply, X: "x", Y: "y", A: ops(varA, one, varB)},
		"x = a ;":                               {Op: api.StMove, X: "x", A: ops(varA)},
		"x = a + 1 ;":                           {Op: api.StArith, X: "x", P: "+", A: ops(varA, one)},
		"x = 2 - a ;":                           {Op: api.StArith, X: "x", P: "-", A: ops(two, varA)},
		"x = 2 * 1 ;":                           {Op: api.StArith, X: "x", P: "*", A: ops(two, one)},
		"x = a < b ;":                           {Op: api.StArith, X: "x", P: "<", A: ops(varA, varB)},
		"x = & g = null ;":                      {Op: api.StArith, X: "x", P: "=", A: ops(funG, null)},
	}
}

// P3.1: ordinary statements, in all blocks.
func TestEachStatement(t *testing.T) {
	for text, s := range statements() {
		wantStmt(t, s, text)
		wantText(t, alone(s, moved, s), "fun f ( ) { "+text+" x = 1 ; "+text+" }\n")
		l := []api.Stmt{s, s}
		wantStmt(t, api.Stmt{Op: api.StWhile, A: ops(yes), Then: l}, "while true { "+text+" "+text+" }")
		wantStmt(t, api.Stmt{Op: api.StIf, A: ops(no), Then: l}, "if false { "+text+" "+text+" }")
		wantStmt(t, api.Stmt{Op: api.StIf, A: ops(no), Then: l, Else: l[:1]}, "if false { "+text+" "+text+" } else { "+text+" }")
	}
}

func operands() map[string]api.Operand {
	return map[string]api.Operand{
		"null": null, "true": yes, "false": no, "a": varA, "& g": funG, "& Null": {Kind: api.OpFun, Name: "Null"},
		"0": number(0), "1": one, "10": number(10), "100000000": number(100000000), "999999999": number(api.MaxNum),
		"nul": variable("nul"), "z_9": variable("z_9"), "in_": variable("in_"), "TRUE": variable("TRUE"),
	}
}

// P3.1: each operand in each place.
func TestEachOperand(t *testing.T) {
	for text, o := range operands() {
		for form, s := range map[string]api.Stmt{
			"out @ ;":                             {Op: api.StOut, A: ops(o)},
			"return @ ;":                          {Op: api.StReturn, A: ops(o)},
			"if @ { }":                            {Op: api.StIf, A: ops(o)},
			"while @ { }":                         {Op: api.StWhile, A: ops(o)},
			"x . p = @ ;":                         {Op: api.StSet, X: "x", P: "p", A: ops(o)},
			"x = @ ;":                             {Op: api.StMove, X: "x", A: ops(o)},
			"x = @ + 1 ;":                         {Op: api.StArith, X: "x", P: "+", A: ops(o, one)},
			"x = 1 < @ ;":                         {Op: api.StArith, X: "x", P: "<", A: ops(one, o)},
			"x = call g ( @ , 1 , @ ) ;":          {Op: api.StCall, X: "x", P: "g", A: ops(o, one, o)},
			"x = y ( 1 , @ ) ;":                   {Op: api.StApply, X: "x", Y: "y", A: ops(one, o)},
			"x = new { } proto @ ;":               {Op: api.StNew, X: "x", A: ops(o)},
			"x = new { p : @ , q : 1 } proto 2 ;": {Op: api.StNew, X: "x", Props: []string{"p", "q"}, A: ops(o, one, two)},
		} {
			wantStmt(t, s, strings.ReplaceAll(form, "@", text))
		}
	}
}

func TestWholePrograms(t *testing.T) {
	wantText(t, api.Program{}, "")
	wantText(t, api.Program{Funcs: []api.Func{}}, "")
	wantText(t, alone(), "fun f ( ) { }\n")
	wantText(t, api.Program{Funcs: []api.Func{
		{Name: "f", Params: []string{"a"}, Body: []api.Stmt{{Op: api.StGet, X: "x", Y: "a", P: "p"}}},
	}}, "fun f ( a ) { x = a . p ; }\n")
	wantText(t, api.Program{Funcs: []api.Func{
		{Name: "g", Params: []string{"b", "a", "b"}},
		{Name: "main", Body: []api.Stmt{moved}},
		{Name: "g", Params: []string{"c", "d"}, Body: []api.Stmt{moved, moved}},
	}}, "fun g ( b , a , b ) { }\nfun main ( ) { x = 1 ; }\nfun g ( c , d ) { x = 1 ; x = 1 ; }\n")
}

// R5: nil and empty lists are the same.
func TestNilAndEmptyLists(t *testing.T) {
	for text, s := range statements() {
		if s.A == nil {
			s.A = []api.Operand{}
		}
		if s.Props == nil {
			s.Props = []string{}
		}
		if s.Then == nil {
			s.Then = []api.Stmt{}
		}
		if s.Else == nil {
			s.Else = []api.Stmt{}
		}
		wantStmt(t, s, text)
	}
	wantText(t, api.Program{Funcs: []api.Func{{Name: "f", Params: []string{}, Body: []api.Stmt{}}}}, "fun f ( ) { }\n")
}

// P3.1: a text has at most 65536 bytes, though a denser source of the same program may have fewer.
func TestLongTexts(t *testing.T) {
	for _, form := range []string{"fun @ ( ) { }\n", "fun f ( @ ) { }\n", "fun f ( ) { x . @ = 1 ; }\n", "fun f ( ) { x = y ( 1 , & @ ) ; }\n", "fun f ( ) { if @ { } else { x = 1 ; } }\nfun g ( ) { }\n"} {
		for bytes := 65534; bytes <= 65539; bytes++ {
			name := strings.Repeat("n", bytes-len(form)+1)
			p, f := parse.Parse(dense(form, name))
			if f != (api.Fault{}) {
				t.Fatal(form, bytes, f)
			}
			if bytes <= 65536 {
				wantText(t, p, strings.ReplaceAll(form, "@", name))
			} else {
				wantNone(t, form, p)
			}
		}
	}
}

// dense is the form's text, with that name, without the blanks that it can do without.
func dense(form, name string) string {
	var b strings.Builder
	for i, w := range strings.Fields(strings.ReplaceAll(form, "@", name)) {
		if i > 0 && strings.ContainsAny(w[:1], "abcdefghijklmnopqrstuvwxyz0123456789") {
			b.WriteByte(' ')
		}
		b.WriteString(w)
	}
	return b.String()
}

// P3.1: many short tokens are as long as one long one.
func TestLongLists(t *testing.T) {
	// "fun f ( ) { x = call g ( 1 , 1 ) ; }\n": each 1 behind the first has 4 bytes.
	frame := len("fun f ( ) { x = call g ( 1 ) ; }\n")
	for _, name := range []string{"a", "ab", "abc", "abcd"} {
		for more := (65536-frame)/4 - 2; more <= (65536-frame)/4+2; more++ {
			a := append(ops(variable(name)), slices.Repeat(ops(one), more)...)
			s := api.Stmt{Op: api.StCall, X: "x", P: "g", A: a}
			text := "x = call g ( " + name + strings.Repeat(" , 1", more) + " ) ;"
			if len("fun f ( ) { "+text+" }\n") <= 65536 {
				wantStmt(t, s, text)
			} else {
				wantNoStmt(t, "long list", s)
			}
		}
	}
	// "fun f ( ) { }\n" has 14 bytes: 4681 have 65534.
	p := api.Program{Funcs: slices.Repeat([]api.Func{{Name: "f"}}, 4681)}
	wantText(t, p, strings.Repeat("fun f ( ) { }\n", 4681))
	p.Funcs[7].Name = "fff"
	wantText(t, p, strings.Repeat("fun f ( ) { }\n", 7)+"fun fff ( ) { }\n"+strings.Repeat("fun f ( ) { }\n", 4673))
	p.Funcs[4680].Name = "ff"
	wantNone(t, "65537 bytes", p)
	wantNone(t, "one more", api.Program{Funcs: slices.Repeat([]api.Func{{Name: "f"}}, 4682)})
	wantNone(t, "many", api.Program{Funcs: make([]api.Func, 1000000)})
}

// P3.1: of a statement the program of it alone has at most 65536 bytes.
func TestLongStatements(t *testing.T) {
	around := len("fun f ( ) { " + " }\n")
	for _, s := range []api.Stmt{{Op: api.StIn, X: "x"}, {Op: api.StIf, A: ops(yes), Then: []api.Stmt{{Op: api.StIn, X: "x"}}}} {
		x := &s.X
		if s.Op == api.StIf {
			x = &s.Then[0].X
		}
		rest := len(print.Stmt(s)) - 1 + around
		*x = strings.Repeat("x", 65536-rest)
		if text := print.Stmt(s); len(text) != 65536-around || !strings.Contains(text, *x+" = in ;") || !print.May(alone(s)) {
			t.Errorf("%v: %v, %.60q", s.Op, len(text), text)
		}
		*x += "x"
		wantNoStmt(t, "a byte more", s)
	}
}

// nested is a statement with blocks that are in that many, itself among them.
func nested(deep int, around func(inner []api.Stmt) api.Stmt) api.Stmt {
	var l []api.Stmt
	for range deep {
		l = []api.Stmt{around(l)}
	}
	return l[0]
}

// P3.1: a function's block is in none, the 33rd one is in 32.
func TestDeepBlocks(t *testing.T) {
	for i, around := range []func([]api.Stmt) api.Stmt{
		func(l []api.Stmt) api.Stmt { return api.Stmt{Op: api.StWhile, A: ops(null), Then: l} },
		func(l []api.Stmt) api.Stmt { return api.Stmt{Op: api.StIf, A: ops(null), Then: l} },
		func(l []api.Stmt) api.Stmt {
			return api.Stmt{Op: api.StIf, A: ops(null), Then: []api.Stmt{moved}, Else: append([]api.Stmt{moved}, l...)}
		},
	} {
		s := nested(31, around)
		if text := print.Stmt(s); text == "" || !print.May(alone(s)) {
			t.Error(i, text)
		}
		q, f := parse.Parse(print.Program(alone(s, s)))
		if f != (api.Fault{}) || !parse.Same(q, alone(s, s)) {
			t.Error(i, f)
		}
		wantNoStmt(t, "one deeper", nested(32, around))
		wantNoStmt(t, "far deeper", nested(20000, around))
		wantNone(t, "one deeper, behind", alone(moved, s, nested(32, around)))
	}
	wantStmt(t, nested(31, func(l []api.Stmt) api.Stmt { return api.Stmt{Op: api.StWhile, A: ops(null), Then: l} }),
		strings.Repeat("while null { ", 30)+"while null { }"+strings.Repeat(" }", 30))
}

// P3.1: 2000 statements, in all functions and blocks together.
func TestManyStatements(t *testing.T) {
	many := func(n int) []api.Stmt { return slices.Repeat([]api.Stmt{moved}, n) }
	wantText(t, alone(many(2000)...), "fun f ( ) { "+strings.Repeat("x = 1 ; ", 2000)+"}\n")
	wantNone(t, "2001", alone(many(2001)...))
	two := api.Program{Funcs: []api.Func{{Name: "f", Body: many(1000)}, {Name: "g", Body: many(1000)}}}
	wantText(t, two, "fun f ( ) { "+strings.Repeat("x = 1 ; ", 1000)+"}\nfun g ( ) { "+strings.Repeat("x = 1 ; ", 1000)+"}\n")
	two.Funcs[0].Body = many(1001)
	wantNone(t, "1001 and 1000", two)
	branch := api.Stmt{Op: api.StIf, A: ops(null), Then: many(1000), Else: many(999)}
	wantStmt(t, branch, "if null { "+strings.Repeat("x = 1 ; ", 1000)+"} else { "+strings.Repeat("x = 1 ; ", 999)+"}")
	wantNone(t, "one behind", alone(branch, moved))
	branch.Else = many(1000)
	wantNoStmt(t, "2000 in one", branch)
}

// R1: lists that hold themselves have no end.
func TestListsThatHoldThemselves(t *testing.T) {
	for _, op := range []int{api.StIf, api.StWhile} {
		l := make([]api.Stmt, 3)
		for i := range l {
			l[i] = api.Stmt{Op: op, A: ops(varA), Then: l}
			if op == api.StIf {
				l[i].Else = l
			}
		}
		wantNoStmt(t, "itself", l[0])
		wantNone(t, "itself", alone(l...))
	}
	other := make([]api.Stmt, 2)
	other[0], other[1] = api.Stmt{Op: 12, Then: other}, api.Stmt{Op: api.StOut, Then: other, Else: other}
	wantNoStmt(t, "itself", other[0])
	wantNoStmt(t, "itself", other[1])
}

var noNames = append(strings.Fields("fun out return if else while new proto call in null true false 1 1x _x é x.y x#y &x x+ ; ( { -"),
	"", " ", "x ", " x", "x y", "x\n", "x\x00", "\xff", "x, y", "x#\n", "x ; y", "x ) { } fun g (", strings.Repeat("x", 70000))

// P3.1: where a name must stand no other text does.
func TestTextsThatAreNoNames(t *testing.T) {
	for _, n := range noNames {
		wantNone(t, n, api.Program{Funcs: []api.Func{{Name: n}}})
		wantNone(t, n, api.Program{Funcs: []api.Func{{Name: "f"}, {Name: n}}})
		wantNone(t, n, api.Program{Funcs: []api.Func{{Name: "f", Params: []string{n}}}})
		wantNone(t, n, api.Program{Funcs: []api.Func{{Name: "f", Params: []string{"a", n}}}})
		for _, s := range []api.Stmt{
			{Op: api.StMove, X: n, A: ops(one)},
			{Op: api.StMove, X: "x", A: ops(variable(n))},
			{Op: api.StMove, X: "x", A: ops(api.Operand{Kind: api.OpFun, Name: n})},
			{Op: api.StOut, A: ops(variable(n))},
			{Op: api.StReturn, A: ops(variable(n))},
			{Op: api.StArith, X: n, P: "+", A: ops(one, two)},
			{Op: api.StArith, X: "x", P: n, A: ops(one, two)},
			{Op: api.StArith, X: "x", P: "+", A: ops(one, variable(n))},
			{Op: api.StGet, X: n, Y: "y", P: "p"},
			{Op: api.StGet, X: "x", Y: n, P: "p"},
			{Op: api.StGet, X: "x", Y: "y", P: n},
			{Op: api.StSet, X: n, P: "p", A: ops(one)},
			{Op: api.StSet, X: "x", P: n, A: ops(one)},
			{Op: api.StNew, X: n, A: ops(one)},
			{Op: api.StNew, X: "x", Props: []string{n}, A: ops(one, one)},
			{Op: api.StNew, X: "x", Props: []string{"p", n}, A: ops(one, one, one)},
			{Op: api.StCall, X: n, P: "g"},
			{Op: api.StCall, X: "x", P: n},
			{Op: api.StApply, X: n, Y: "y"},
			{Op: api.StApply, X: "x", Y: n},
			{Op: api.StApply, X: "x", Y: "y", A: ops(one, variable(n))},
			{Op: api.StIn, X: n},
			{Op: api.StIf, A: ops(variable(n))},
			{Op: api.StWhile, A: ops(variable(n))},
		} {
			if s.Op == api.StArith && n == "-" && s.P == n {
				continue // a sign that there is
			}
			wantNoStmt(t, n, s)
			wantNoStmt(t, n, api.Stmt{Op: api.StWhile, A: ops(one), Then: []api.Stmt{s}})
			wantNoStmt(t, n, api.Stmt{Op: api.StIf, A: ops(one), Then: []api.Stmt{moved}, Else: []api.Stmt{moved, s}})
			wantNone(t, n, alone(moved, s, moved))
		}
	}
}

// P3.1: no other operands, in no place.
func TestOperandsThatAreNone(t *testing.T) {
	for _, o := range []api.Operand{
		{Kind: -1}, {Kind: 5}, {Kind: math.MaxInt}, {Kind: math.MinInt, Name: "x"}, {Kind: 5, Name: "x"}, {Kind: 6, N: 1},
		{Kind: api.OpNull, N: 1}, {Kind: api.OpNull, Name: "null"}, {Kind: api.OpNull, N: -1}, {Kind: api.OpNull, Name: "x"},
		{Kind: api.OpBool, N: 2}, {Kind: api.OpBool, N: -1}, {Kind: api.OpBool, N: 1, Name: "true"}, {Kind: api.OpBool, Name: "x"},
		{Kind: api.OpNum, N: -1}, {Kind: api.OpNum, N: api.MaxNum + 1}, {Kind: api.OpNum, N: math.MaxInt}, {Kind: api.OpNum, N: math.MinInt}, {Kind: api.OpNum, N: 1, Name: "1"}, {Kind: api.OpNum, Name: "x"},
		{Kind: api.OpFun}, {Kind: api.OpFun, Name: "g", N: 1}, {Kind: api.OpFun, Name: "g", N: -1}, {Kind: api.OpFun, Name: "&g"}, {Kind: api.OpFun, Name: "fun"},
		{Kind: api.OpVar}, {Kind: api.OpVar, Name: "a", N: 1}, {Kind: api.OpVar, Name: "a", N: -1}, {Kind: api.OpVar, Name: "null"}, {Kind: api.OpVar, Name: "7"}, {Kind: api.OpVar, Name: "a . p"}, {Kind: api.OpVar, Name: "a + 1"},
	} {
		what := strings.Join([]string{"operand", o.Name}, " ")
		for text, s := range statements() {
			for i := range s.A {
				was := s.A[i]
				s.A[i] = o
				wantNoStmt(t, what+" in "+text, s)
				s.A[i] = was
			}
		}
	}
}

func TestSignsThatAreNone(t *testing.T) {
	for _, p := range strings.Split("/ > ! ; , . : & ( ) { } == <= ++ += x in 1 + +1", " ") {
		wants := p == "+"
		s := api.Stmt{Op: api.StArith, X: "x", P: p, A: ops(one, two)}
		if got := print.Stmt(s); (got != "") != wants {
			t.Errorf("%q: %q", p, got)
		}
	}
	for _, p := range []string{"", " ", "+ ", " +", "\n", "+ 1 ; y = 2 -", "=\x00"} {
		wantNoStmt(t, p, api.Stmt{Op: api.StArith, X: "x", P: p, A: ops(one, two)})
	}
}

// R4: an argument is as it was, and so is an answer, whatever becomes of the argument.
func TestArgumentsAreLeftAlone(t *testing.T) {
	source := "fun f(a,b){x=a.p;if x{out 007;}else{return &f;}while true{y=new{p:1,q:a}proto null;}x=y(1,a);x=call g(b);}"
	p, _ := parse.Parse(source)
	q, _ := parse.Parse(source)
	text := print.Program(p)
	print.May(p)
	for _, s := range p.Funcs[0].Body {
		print.Stmt(s)
	}
	if !reflect.DeepEqual(p, q) {
		t.Error(p, q)
	}
	p.Funcs[0].Name, p.Funcs[0].Params[0], p.Funcs[0].Body[0].X = "h", "c", "z"
	if again := print.Program(q); again != text || print.Program(p) == text {
		t.Error(text, again)
	}
}
