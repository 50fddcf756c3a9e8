package parse

import (
	"protean/api"
	"protean/lex"
	"strconv"
	"strings"
)

// stop is what a reader panics with at the first fault, so that no rule has to ask whether one within it failed.
type stop struct{ api.Fault }

// reader goes through tokens from front to back, and never back.
type reader struct {
	rest  []api.Token
	end   int
	now   api.Token // the first of rest, or one that stands for nothing
	stmts int       // that have begun
	deep  int       // blocks that are under way
}

// nothing is the Kind of now where no token is with which a rule could go on.
const nothing = -1

func newReader(l []api.Token, end int) *reader {
	r := &reader{rest: l, end: end}
	r.look()
	return r
}

// look asks a token but once whether it is one, as its Text may be long.
func (r *reader) look() {
	r.now = api.Token{Kind: nothing, At: r.end}
	if len(r.rest) == 0 {
		return
	}
	if lex.May(r.rest[:1]) {
		r.now = r.rest[0]
	}
	r.now.At = r.rest[0].At
}

func (r *reader) fail(code api.Errno) {
	panic(stop{api.Fault{Code: code, At: r.now.At}})
}

// must ends the reading where no rule goes on.
func (r *reader) must(goesOn bool) {
	if !goesOn {
		r.fail(api.ErrParse)
	}
}

// pass answers the Text that is left behind, as a copy: the program shares no memory with its tokens.
func (r *reader) pass() string {
	text := strings.Clone(r.now.Text)
	r.rest = r.rest[1:]
	r.look()
	return text
}

// at tells whether the reader is at just that word or sign; no two tokens of different Kinds have one Text.
func (r *reader) at(text string) bool {
	return r.now.Text == text
}

func (r *reader) atName() bool {
	return r.now.Kind == api.TokWord && !Keyword(r.now.Text)
}

// passIf passes that word or sign, if it is there.
func (r *reader) passIf(text string) bool {
	if !r.at(text) {
		return false
	}
	r.pass()
	return true
}

func (r *reader) take(text string) {
	r.must(r.passIf(text))
}

func (r *reader) name() string {
	r.must(r.atName())
	return r.pass()
}

// list reads items parted by commas, up to that sign; there may be none.
func (r *reader) list(last string, item func()) {
	if r.passIf(last) {
		return
	}
	item()
	for r.passIf(",") {
		item()
	}
	r.take(last)
}

func (r *reader) operand() api.Operand {
	switch {
	case r.passIf("null"):
		return api.Operand{Kind: api.OpNull}
	case r.passIf("true"):
		return api.Operand{Kind: api.OpBool, N: 1}
	case r.passIf("false"):
		return api.Operand{Kind: api.OpBool}
	case r.passIf("&"):
		return api.Operand{Kind: api.OpFun, Name: r.name()}
	case r.now.Kind == api.TokNum:
		// A token's digits are at most nine, so that this has no error.
		n, _ := strconv.Atoi(r.pass())
		return api.Operand{Kind: api.OpNum, N: n}
	}
	return api.Operand{Kind: api.OpVar, Name: r.name()}
}

// operands reads what stands between parentheses.
func (r *reader) operands() []api.Operand {
	var l []api.Operand
	r.take("(")
	r.list(")", func() { l = append(l, r.operand()) })
	return l
}
