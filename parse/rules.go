package parse

import "protean/api"

func (r *reader) program() api.Program {
	var p api.Program
	for len(r.rest) > 0 {
		p.Funcs = append(p.Funcs, r.function())
	}
	return p
}

func (r *reader) function() api.Func {
	r.take("fun")
	f := api.Func{Name: r.name()}
	r.take("(")
	r.list(")", func() { f.Params = append(f.Params, r.name()) })
	f.Body = r.block()
	return f
}

func (r *reader) block() []api.Stmt {
	if r.at("{") && r.deep == api.MaxDeep {
		r.fail(api.ErrParseDeep)
	}
	r.take("{")
	r.deep++
	var l []api.Stmt
	for !r.passIf("}") {
		l = append(l, r.statement())
	}
	r.deep--
	return l
}

func (r *reader) statement() api.Stmt {
	r.must(r.atStatement())
	if r.stmts == api.MaxStmts {
		r.fail(api.ErrParseMany)
	}
	r.stmts++
	switch {
	case r.passIf("if"):
		return r.branch()
	case r.passIf("while"):
		s := api.Stmt{Op: api.StWhile, A: r.oneOperand()}
		s.Then = r.block()
		return s
	}
	s := r.plain()
	r.take(";")
	return s
}

func (r *reader) atStatement() bool {
	return r.atName() || r.at("out") || r.at("return") || r.at("if") || r.at("while")
}

func (r *reader) branch() api.Stmt {
	s := api.Stmt{Op: api.StIf, A: r.oneOperand()}
	s.Then = r.block()
	if r.passIf("else") {
		s.Else = r.block()
	}
	return s
}

// plain reads a statement without blocks, up to its semicolon.
func (r *reader) plain() api.Stmt {
	switch {
	case r.passIf("out"):
		return api.Stmt{Op: api.StOut, A: r.oneOperand()}
	case r.passIf("return"):
		return api.Stmt{Op: api.StReturn, A: r.oneOperand()}
	}
	x := r.name()
	if r.passIf(".") {
		s := api.Stmt{Op: api.StSet, X: x, P: r.name()}
		r.take("=")
		s.A = r.oneOperand()
		return s
	}
	r.take("=")
	s := r.value()
	s.X = x
	return s
}

// value reads what a variable is set to.
func (r *reader) value() api.Stmt {
	switch {
	case r.passIf("in"):
		return api.Stmt{Op: api.StIn}
	case r.passIf("call"):
		s := api.Stmt{Op: api.StCall, P: r.name()}
		s.A = r.operands()
		return s
	case r.passIf("new"):
		return r.object()
	}
	a := r.operand()
	switch {
	case a.Kind == api.OpVar && r.passIf("."):
		return api.Stmt{Op: api.StGet, Y: a.Name, P: r.name()}
	case a.Kind == api.OpVar && r.at("("):
		return api.Stmt{Op: api.StApply, Y: a.Name, A: r.operands()}
	case r.atArith():
		s := api.Stmt{Op: api.StArith, P: r.pass()}
		s.A = []api.Operand{a, r.operand()}
		return s
	}
	return api.Stmt{Op: api.StMove, A: []api.Operand{a}}
}

func (r *reader) atArith() bool {
	return r.at("+") || r.at("-") || r.at("*") || r.at("<") || r.at("=")
}

func (r *reader) object() api.Stmt {
	s := api.Stmt{Op: api.StNew}
	r.take("{")
	r.list("}", func() {
		s.Props = append(s.Props, r.name())
		r.take(":")
		s.A = append(s.A, r.operand())
	})
	r.take("proto")
	s.A = append(s.A, r.operand())
	return s
}

func (r *reader) oneOperand() []api.Operand {
	return []api.Operand{r.operand()}
}
