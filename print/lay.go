package print

import (
	"protean/api"
	"strconv"
)

// layer lays tokens, each with a blank behind it, of whatever it is given: what is missing, or is of no kind, is left away.
type layer struct {
	text     []byte
	full     bool // there was more than a text may have: nothing is laid any more, so that what has no end in itself has one here
	words    map[int]word
	operands map[api.Operand]word
}

type word struct{ text string }

func newLayer() *layer {
	return &layer{
		// With which a statement begins, or the value that it sets.
		words: map[int]word{
			api.StOut:    {"out"},
			api.StReturn: {"return"},
			api.StIf:     {"if"},
			api.StWhile:  {"while"},
			api.StIn:     {"in"},
			api.StCall:   {"call"},
			api.StNew:    {"new"},
		},
		operands: map[api.Operand]word{
			{Kind: api.OpNull}:       {"null"},
			{Kind: api.OpBool, N: 0}: {"false"},
			{Kind: api.OpBool, N: 1}: {"true"},
		},
	}
}

func (l *layer) put(tokens ...string) {
	for _, t := range tokens {
		if l.full || len(t) >= api.MaxText-len(l.text) {
			l.full = true
			return
		}
		l.text = append(l.text, t...)
		l.text = append(l.text, ' ')
	}
}

func (l *layer) word(op int) {
	l.put(l.words[op].text)
}

// list lays n items, parted by commas.
func (l *layer) list(n int, item func(i int)) {
	for i := 0; i < n && !l.full; i++ {
		if i > 0 {
			l.put(",")
		}
		item(i)
	}
}

func (l *layer) program(p api.Program) {
	for _, f := range p.Funcs {
		if l.full {
			return
		}
		l.function(f)
	}
}

func (l *layer) function(f api.Func) {
	l.put("fun", f.Name, "(")
	l.list(len(f.Params), func(i int) { l.put(f.Params[i]) })
	l.put(")")
	l.block(f.Body)
	if !l.full {
		l.text[len(l.text)-1] = '\n'
	}
}

func (l *layer) block(b []api.Stmt) {
	l.put("{")
	for _, s := range b {
		if l.full {
			return
		}
		l.stmt(s)
	}
	l.put("}")
}

func (l *layer) stmt(s api.Stmt) {
	switch s.Op {
	case api.StIf, api.StWhile:
		l.branch(s)
		return
	case api.StOut, api.StReturn:
		l.word(s.Op)
		l.operand(s.A, 0)
	case api.StSet:
		l.put(s.X, ".", s.P, "=")
		l.operand(s.A, 0)
	default:
		l.put(s.X, "=")
		l.value(s)
	}
	l.put(";")
}

func (l *layer) branch(s api.Stmt) {
	l.word(s.Op)
	l.operand(s.A, 0)
	l.block(s.Then)
	if len(s.Else) > 0 {
		l.put("else")
		l.block(s.Else)
	}
}

// value lays what a variable is set to.
func (l *layer) value(s api.Stmt) {
	switch s.Op {
	case api.StMove:
		l.operand(s.A, 0)
	case api.StArith:
		l.operand(s.A, 0)
		l.put(s.P)
		l.operand(s.A, 1)
	case api.StGet:
		l.put(s.Y, ".", s.P)
	case api.StIn:
		l.word(s.Op)
	case api.StNew:
		l.word(s.Op)
		l.object(s)
	case api.StCall:
		l.word(s.Op)
		l.put(s.P)
		l.arguments(s.A)
	case api.StApply:
		l.put(s.Y)
		l.arguments(s.A)
	}
}

func (l *layer) object(s api.Stmt) {
	l.put("{")
	l.list(len(s.Props), func(i int) {
		l.put(s.Props[i], ":")
		l.operand(s.A, i)
	})
	l.put("}", "proto")
	l.operand(s.A, len(s.Props))
}

func (l *layer) arguments(a []api.Operand) {
	l.put("(")
	l.list(len(a), func(i int) { l.operand(a, i) })
	l.put(")")
}

// operand lays the operand at that place, if there is one.
func (l *layer) operand(a []api.Operand, at int) {
	if at >= len(a) {
		return
	}
	o := a[at]
	switch o.Kind {
	case api.OpNum:
		l.put(strconv.Itoa(o.N))
	case api.OpFun:
		l.put("&")
		fallthrough
	case api.OpVar:
		l.put(o.Name)
	default:
		l.put(l.operands[o].text)
	}
}
