package resolve

import (
	"protean/api"
)

// scope is what a program's names may stand for: its functions, and by each name the number of the first one that has it.
type scope struct {
	funcs []api.Func
	first map[string]int
}

func newScope(p api.Program) scope {
	first := make(map[string]int, len(p.Funcs))
	for i, f := range p.Funcs {
		if _, stood := first[f.Name]; !stood {
			first[f.Name] = i
		}
	}
	return scope{p.Funcs, first}
}

// has tells whether there is a function of the name.
func (c scope) has(name string) bool {
	_, stood := c.first[name]
	return stood
}

// params is how many parameters the first function of the name has; -1, which no list of operands is as long as, if there is none.
func (c scope) params(name string) int {
	i, stood := c.first[name]
	if !stood {
		return -1
	}
	return len(c.funcs[i].Params)
}

// function is the first fault of the function f, whose number is i.
func (c scope) function(i int, f api.Func) api.Fault {
	place := i * apart
	if c.first[f.Name] != i || twice(f.Params) {
		return api.Fault{Code: api.ErrResolveTwice, At: place}
	}
	for n, s := range statements(f.Body) {
		if code := c.statement(s); code != api.OK {
			return api.Fault{Code: code, At: place + n + 1}
		}
	}
	return api.Fault{}
}

// statement is the first fault of a statement by itself, without those of its blocks.
func (c scope) statement(s api.Stmt) api.Errno {
	switch {
	case s.Op == api.StNew && twice(s.Props):
		return api.ErrResolveTwice
	case s.Op == api.StCall && !c.has(s.P) || c.lacks(s.A):
		return api.ErrResolveFun
	case s.Op == api.StCall && len(s.A) != c.params(s.P):
		return api.ErrResolveArity
	}
	return api.OK
}

// lacks tells whether an operand is a function that there is not.
func (c scope) lacks(operands []api.Operand) bool {
	for _, a := range operands {
		if a.Kind == api.OpFun && !c.has(a.Name) {
			return true
		}
	}
	return false
}
