package resolve_test

import (
	"protean/api"
	"protean/number"
	"protean/resolve"
	"slices"
	"testing"
)

// hasTwice: one of the names stands ahead of itself.
func hasTwice(names []string) bool {
	for i, name := range names {
		if slices.Contains(names[:i], name) {
			return true
		}
	}
	return false
}

// numberOf is the number of the first function of the name, or -1.
func numberOf(p api.Program, name string) int {
	return slices.IndexFunc(p.Funcs, func(f api.Func) bool { return f.Name == name })
}

// statementFault is P5.1 for one statement, word by word.
func statementFault(p api.Program, s api.Stmt) api.Errno {
	if s.Op == api.StNew && hasTwice(s.Props) {
		return api.ErrResolveTwice
	}
	for _, a := range s.A {
		if a.Kind == api.OpFun && numberOf(p, a.Name) < 0 {
			return api.ErrResolveFun
		}
	}
	if s.Op != api.StCall {
		return api.OK
	}
	called := numberOf(p, s.P)
	if called < 0 {
		return api.ErrResolveFun
	}
	if len(s.A) != len(p.Funcs[called].Params) {
		return api.ErrResolveArity
	}
	return api.OK
}

// wordForWord is P5.1 for a program, word by word.
func wordForWord(p api.Program) api.Fault {
	for i, f := range p.Funcs {
		if numberOf(p, f.Name) < i || hasTwice(f.Params) {
			return api.Fault{Code: api.ErrResolveTwice, At: 10000 * i}
		}
		for n, s := range number.List(f.Body) {
			if code := statementFault(p, s); code != api.OK {
				return api.Fault{Code: code, At: 10000*i + n + 1}
			}
		}
	}
	if i := numberOf(p, "main"); i < 0 || len(p.Funcs[i].Params) != 0 {
		return api.Fault{Code: api.ErrResolveMain, At: -1}
	}
	return api.Fault{}
}

// eachOnceRising is a list of names as P5.2 asks for it.
func eachOnceRising(names []string) []string {
	slices.Sort(names)
	return slices.DeleteFunc(slices.Compact(names), func(name string) bool { return name == "" })
}

// wantWords holds all calls against P5.1 and P5.2, word by word.
func wantWords(t *testing.T, p api.Program) {
	t.Helper()
	if got, w := resolve.Check(p), wordForWord(p); got != w {
		t.Fatalf("%v: Check %v; want %v", p, got, w)
	}
	var props []string
	for i, f := range p.Funcs {
		if got, w := resolve.Fun(p, f.Name), numberOf(p, f.Name); got != w || got > i {
			t.Fatalf("%v: Fun of %q: %v; want %v", p, f.Name, got, w)
		}
		vars := slices.Clone(f.Params)
		for _, s := range number.List(f.Body) {
			vars = append(vars, s.X, s.Y)
			for _, a := range s.A {
				if a.Kind == api.OpVar {
					vars = append(vars, a.Name)
				}
			}
			if s.Op == api.StGet || s.Op == api.StSet {
				props = append(props, s.P)
			}
			props = append(props, s.Props...)
		}
		wantNames(t, "Vars", resolve.Vars(f), eachOnceRising(vars)...)
	}
	wantNames(t, "Props", resolve.Props(p), eachOnceRising(props)...)
}

// functions are all functions with one of the names, of the lists of parameters and of the bodies.
func functions(names []string, params [][]string, bodies [][]api.Stmt) []api.Func {
	var l []api.Func
	for _, name := range names {
		for _, p := range params {
			for _, b := range bodies {
				l = append(l, api.Func{Name: name, Params: p, Body: b})
			}
		}
	}
	return l
}

// programs tells all programs of so many of these functions.
func programs(l []api.Func, count int, tell func(p api.Program)) {
	var from func(chosen []api.Func)
	from = func(chosen []api.Func) {
		if len(chosen) == count {
			tell(program(chosen...))
			return
		}
		for _, f := range l {
			from(append(slices.Clone(chosen), f))
		}
	}
	from(nil)
}

// manyFunctions are functions with all faults there are, by themselves and together.
func manyFunctions() []api.Func {
	return functions([]string{"main", "f", ""}, [][]string{nil, {"a"}, {"a", "b"}, {"a", "b", "a"}}, [][]api.Stmt{
		nil,
		block(call("f"), call("main")),
		block(move(num), call("f", fun("f"))),
		block(branch(block(call("")), block(call("f", num, fun(""))))),
		block(made(fun("f"), "p", "q"), move(fun("none"))),
		block(branch(nil, block(made(fun("none"), "p", "p")))),
		block(branch(block(move(num)), block(move(num))), call("main", num), call("none")),
	})
}

// fewFunctions are such that many programs of them are right.
func fewFunctions() []api.Func {
	return append(
		functions([]string{"main"}, [][]string{nil}, [][]api.Stmt{nil, block(call("f", num), branch(block(made(fun("g"), "p"))))}),
		functions([]string{"f", "g"}, [][]string{{"a"}, nil}, [][]api.Stmt{nil, block(call("f", num)), block(branch(nil, block(move(fun("g"))))), block(move(fun("h")))})...)
}

// P5.1, P5.2: all programs of few functions.
func TestAllPrograms(t *testing.T) {
	for count := range 3 {
		programs(manyFunctions(), count, func(p api.Program) { wantWords(t, p) })
	}
	programs(fewFunctions(), 3, func(p api.Program) { wantWords(t, p) })
}

// P5.3: the functions of a program that is right are right in any order.
func TestRightWhereverItStands(t *testing.T) {
	right := 0
	programs(fewFunctions(), 3, func(p api.Program) {
		if resolve.Check(p) != (api.Fault{}) {
			return
		}
		right++
		a, b, c := p.Funcs[0], p.Funcs[1], p.Funcs[2]
		for _, q := range []api.Program{program(a, c, b), program(b, a, c), program(b, c, a), program(c, a, b), program(c, b, a)} {
			if got := resolve.Check(q); got != (api.Fault{}) {
				t.Fatalf("%v is right, %v is not: %v", p, q, got)
			}
		}
	})
	if right < 100 {
		t.Errorf("%v programs are right", right)
	}
}

// P5.3: one function's fault goes with it wherever it stands.
func TestFaultGoesWithItsFunction(t *testing.T) {
	for _, c := range []struct {
		bad api.Func
		w   api.Fault
	}{
		{function("bad", []string{"a", "a"}), api.Fault{Code: api.ErrResolveTwice, At: 0}},
		{function("bad", nil, move(null), made(null, "p", "p")), api.Fault{Code: api.ErrResolveTwice, At: 2}},
		{function("bad", nil, branch(block(call("g", num)), block(move(fun("none"))))), api.Fault{Code: api.ErrResolveFun, At: 3}},
		{function("bad", nil, call("none")), api.Fault{Code: api.ErrResolveFun, At: 1}},
		{function("bad", []string{"a"}, call("bad", num), call("bad")), api.Fault{Code: api.ErrResolveArity, At: 2}},
		{function("bad", nil, branch(nil, block(call("g")))), api.Fault{Code: api.ErrResolveArity, At: 2}},
	} {
		right := []api.Func{function("g", []string{"a"}, call("bad", make([]api.Operand, len(c.bad.Params))...)), function("main", nil, call("g", fun("bad"))), function("h", nil)}
		for place := range len(right) + 1 {
			w := api.Fault{Code: c.w.Code, At: c.w.At + 10000*place}
			wantCheck(t, "bad", program(slices.Insert(slices.Clone(right), place, c.bad)...), w)
		}
	}
}

// P5.3: whatever is put behind a program that is right, no place ahead of it is that of a fault.
func TestBehindWhatIsRight(t *testing.T) {
	right := 0
	behind := manyFunctions()
	programs(fewFunctions(), 2, func(p api.Program) {
		if resolve.Check(p) != (api.Fault{}) {
			return
		}
		right++
		for _, f := range behind {
			for _, g := range []api.Func{f, behind[0], behind[len(behind)/2]} {
				q := program(append(slices.Clone(p.Funcs), f, g)...)
				if got := resolve.Check(q); got != (api.Fault{}) && got.At < 10000*len(p.Funcs) {
					t.Fatalf("%v is right, with more behind it not: %v", p, got)
				}
				for i, h := range p.Funcs {
					if resolve.Fun(q, h.Name) != i {
						t.Fatalf("%v: Fun of %q: %v", q, h.Name, resolve.Fun(q, h.Name))
					}
				}
			}
		}
	})
	if right < 10 {
		t.Errorf("%v programs are right", right)
	}
}

// grown is a program that bytes tell, of names of which there are few.
func grown(told []byte) api.Program {
	next := func(below int) int {
		if len(told) == 0 {
			return 0
		}
		c := int(told[0])
		told = told[1:]
		return c % below
	}
	name := func() string { return []string{"", "f", "g", "main", "\xff"}[next(5)] }
	list := func() []string {
		var l []string
		for range next(4) {
			l = append(l, name())
		}
		return l
	}
	var body func(deep int) []api.Stmt
	body = func(deep int) []api.Stmt {
		var l []api.Stmt
		for range next(4) {
			s := api.Stmt{Op: next(api.StKinds+2) - 1, X: name(), Y: name(), P: name(), Props: list()}
			for range next(4) {
				s.A = append(s.A, api.Operand{Kind: next(api.OpKinds+2) - 1, Name: name()})
			}
			if deep < 8 && next(3) == 1 {
				s.Then, s.Else = body(deep+1), body(deep+1)
			}
			l = append(l, s)
		}
		return l
	}
	var p api.Program
	for len(told) > 0 {
		p.Funcs = append(p.Funcs, api.Func{Name: name(), Params: list(), Body: body(0)})
	}
	return p
}

// P5.1 to P5.3: whatever program comes.
func FuzzResolve(f *testing.F) {
	f.Add([]byte{})
	f.Add([]byte{3, 0, 0, 1, 1, 1, 0, 0})
	f.Add([]byte{3, 0, 1, 6, 1, 2, 1, 0, 1, 4, 2, 0, 1, 1, 1, 0})
	f.Add([]byte("fun main() { x = call g(); }"))
	f.Fuzz(func(t *testing.T, told []byte) {
		p := grown(told[:min(len(told), 300)])
		wantWords(t, p)
		if resolve.Check(p) == (api.Fault{}) {
			slices.Reverse(p.Funcs)
			wantCheck(t, "reversed", p, api.Fault{})
		}
	})
}
