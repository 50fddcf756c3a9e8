package parse_test

import (
	"math/rand"
	"protean/api"
	"protean/lex"
	"protean/parse"
	"slices"
	"strconv"
	"strings"
	"testing"
)

// rules is the chapter's grammar, told again as what each thing may be made of. A thing that has no rule is a token.
func rules() map[string][]string {
	return map[string][]string{
		"Program":    {"", "Function Program"},
		"Function":   {"fun NAME ( Names ) Block"},
		"Names":      {"", "NAME MoreNames"},
		"MoreNames":  {"", ", NAME MoreNames"},
		"Block":      {"{ Statements }"},
		"Statements": {"", "Statement Statements"},
		"Statement": {"out Operand ;", "return Operand ;", "if Operand Block", "if Operand Block else Block", "while Operand Block",
			"NAME . NAME = Operand ;", "NAME = in ;", "NAME = call NAME ( Operands ) ;", "NAME = new { Props } proto Operand ;",
			"NAME = NAME . NAME ;", "NAME = NAME ( Operands ) ;", "NAME = Operand ;", "NAME = Operand Sign Operand ;"},
		"Operand":      {"null", "true", "false", "NUMBER", "& NAME", "NAME"},
		"Operands":     {"", "Operand MoreOperands"},
		"MoreOperands": {"", ", Operand MoreOperands"},
		"Props":        {"", "NAME : Operand MoreProps"},
		"MoreProps":    {"", ", NAME : Operand MoreProps"},
		"Sign":         {"+", "-", "*", "<", "="},
	}
}

// ways is all that may still come, each way as the things that it is made of.
type ways map[string]bool

// spread puts tokens at the front of each way.
func spread(r map[string][]string, w ways) ways {
	out := ways{}
	var open func(string)
	open = func(way string) {
		head, tail, _ := strings.Cut(way, " ")
		made, is := r[head]
		if !is {
			out[way] = true
			return
		}
		for _, m := range made {
			open(strings.TrimSpace(m + " " + tail))
		}
	}
	for way := range w {
		open(way)
	}
	return out
}

// behind answers what may still come behind that token; nothing, if it goes on no way.
func (w ways) behind(r map[string][]string, token string) ways {
	out := ways{}
	for way := range w {
		if head, tail, _ := strings.Cut(way, " "); head == token && way != "" {
			out[tail] = true
		}
	}
	return spread(r, out)
}

func alphabet() []api.Token {
	var l []api.Token
	for _, s := range append(slices.Clone(keywords), "n") {
		l = append(l, api.Token{Kind: api.TokWord, Text: s})
	}
	for _, s := range strings.Split("{}(),;.=+-*<&:", "") {
		l = append(l, api.Token{Kind: api.TokSign, Text: s})
	}
	return append(l, api.Token{Kind: api.TokNum, Text: "1"})
}

func grammarName(x api.Token) string {
	switch {
	case x.Kind == api.TokNum:
		return "NUMBER"
	case x.Text == "n":
		return "NAME"
	}
	return x.Text
}

// P2.1: all rows of tokens that go on, and each token behind which they do no more.
func TestReadIsByTheGrammar(t *testing.T) {
	r, letters, seen := rules(), alphabet(), 0
	var walk func(l []api.Token, w ways, more int)
	walk = func(l []api.Token, w ways, more int) {
		seen++
		p, f := parse.Read(l, 5000)
		want := api.Fault{Code: api.ErrParse, At: 5000}
		if w[""] {
			want = api.Fault{}
		}
		if f != want || f != (api.Fault{}) && len(p.Funcs) != 0 {
			t.Fatalf("%v: %v, %v; want %v", lex.Print(l), p, f, want)
		}
		for _, x := range letters {
			x.At = len(l)
			longer := append(slices.Clone(l), x)
			if next := w.behind(r, grammarName(x)); len(next) == 0 {
				if p, f := parse.Read(longer, 5000); f != (api.Fault{Code: api.ErrParse, At: x.At}) || len(p.Funcs) != 0 {
					t.Fatalf("%v: %v, %v; want a fault at the last", lex.Print(longer), p, f)
				}
			} else if more > 0 {
				walk(longer, next, more-1)
			}
		}
	}
	for start, more := range map[string]int{"": 8, "fun n ( ": 7, "fun n ( ) {": 6, "fun n ( ) { n =": 6, "fun n ( ) { n = new {": 6, "fun n ( ) { if n { ": 5, "fun n ( ) { if n { } else": 6, "fun n ( ) { n = n (": 5, "fun n ( ) { } ": 8} {
		w := spread(r, ways{"Program": true})
		l := tokensOf(t, start)
		for i := range l {
			w = w.behind(r, grammarName(l[i]))
			l[i].At = i
		}
		walk(l, w, more)
	}
	if seen < 10000 {
		t.Error(seen)
	}
}

// maker makes programs of any shape; always the same ones.
type maker struct {
	*rand.Rand
	left int // statements
}

func (m *maker) name() string {
	return []string{"x", "y", "zz", "p_1", "Null", "funs", "i", "main"}[m.Intn(8)]
}

func (m *maker) names() []string {
	l := make([]string, m.Intn(4))
	for i := range l {
		l[i] = m.name()
	}
	return l
}

func (m *maker) operand() api.Operand {
	switch m.Intn(6) {
	case 0:
		return null
	case 1:
		return yes
	case 2:
		return no
	case 3:
		return api.Operand{Kind: api.OpNum, N: []int{0, 1, 10, 4711, 999999999}[m.Intn(5)]}
	case 4:
		return api.Operand{Kind: api.OpFun, Name: m.name()}
	}
	return api.Operand{Kind: api.OpVar, Name: m.name()}
}

func (m *maker) operands(n int) []api.Operand {
	l := make([]api.Operand, n)
	for i := range l {
		l[i] = m.operand()
	}
	return l
}

func (m *maker) block(deep int) []api.Stmt {
	var l []api.Stmt
	for range m.Intn(4) {
		if m.left > 0 {
			m.left--
			l = append(l, m.stmt(deep))
		}
	}
	return l
}

func (m *maker) stmt(deep int) api.Stmt {
	op := m.Intn(int(api.StKinds))
	if deep == 32 && (op == api.StIf || op == api.StWhile) {
		op = api.StMove
	}
	s := api.Stmt{Op: op}
	if op != api.StOut && op != api.StReturn && op != api.StIf && op != api.StWhile {
		s.X = m.name()
	}
	switch op {
	case api.StArith:
		s.P, s.A = []string{"+", "-", "*", "<", "="}[m.Intn(5)], m.operands(2)
	case api.StGet:
		s.Y, s.P = m.name(), m.name()
	case api.StSet:
		s.P, s.A = m.name(), m.operands(1)
	case api.StNew:
		s.Props = m.names()
		s.A = m.operands(len(s.Props) + 1)
	case api.StCall:
		s.P, s.A = m.name(), m.operands(m.Intn(4))
	case api.StApply:
		s.Y, s.A = m.name(), m.operands(m.Intn(4))
	case api.StIn:
	case api.StIf:
		s.A, s.Then, s.Else = m.operands(1), m.block(deep+1), m.block(deep+1)
	case api.StWhile:
		s.A, s.Then = m.operands(1), m.block(deep+1)
	default:
		s.A = m.operands(1)
	}
	return s
}

func (m *maker) program() api.Program {
	var p api.Program
	for range m.Intn(4) {
		p.Funcs = append(p.Funcs, api.Func{Name: m.name(), Params: m.names(), Body: m.block(1)})
	}
	return p
}

// textOf lays a program as a source.
func textOf(p api.Program) string {
	var b strings.Builder
	for _, f := range p.Funcs {
		b.WriteString("fun " + f.Name + "(" + strings.Join(f.Params, ",") + ")" + textOfBlock(f.Body))
	}
	return b.String()
}

func textOfBlock(l []api.Stmt) string {
	s := "{"
	for _, x := range l {
		s += textOfStmt(x)
	}
	return s + "}"
}

func textOfOperands(l []api.Operand) []string {
	var out []string
	for _, o := range l {
		s := "null"
		switch o.Kind {
		case api.OpBool:
			s = []string{"false", "true"}[o.N]
		case api.OpNum:
			s = strconv.Itoa(o.N)
		case api.OpFun:
			s = "&" + o.Name
		case api.OpVar:
			s = o.Name
		}
		out = append(out, s)
	}
	return out
}

func textOfStmt(x api.Stmt) string {
	a := textOfOperands(x.A)
	switch x.Op {
	case api.StOut:
		return "out " + a[0] + ";"
	case api.StReturn:
		return "return " + a[0] + ";"
	case api.StWhile:
		return "while " + a[0] + textOfBlock(x.Then)
	case api.StIf:
		s := "if " + a[0] + textOfBlock(x.Then)
		if len(x.Else) > 0 {
			s += "else" + textOfBlock(x.Else)
		}
		return s
	case api.StSet:
		return x.X + "." + x.P + "=" + a[0] + ";"
	}
	value := ""
	switch x.Op {
	case api.StIn:
		value = "in"
	case api.StCall:
		value = "call " + x.P + "(" + strings.Join(a, ",") + ")"
	case api.StNew:
		var props []string
		for i, p := range x.Props {
			props = append(props, p+":"+a[i])
		}
		value = "new{" + strings.Join(props, ",") + "}proto " + a[len(a)-1]
	case api.StGet:
		value = x.Y + "." + x.P
	case api.StApply:
		value = x.Y + "(" + strings.Join(a, ",") + ")"
	case api.StMove:
		value = a[0]
	case api.StArith:
		value = a[0] + x.P + a[1]
	}
	return x.X + "=" + value + ";"
}

// P2.1, P2.2: programs of any shape are read from their texts.
func TestMadeProgramsAreRead(t *testing.T) {
	m := &maker{Rand: rand.New(rand.NewSource(1))}
	last := api.Program{}
	for i := range 3000 {
		m.left = 60
		p := m.program()
		s := textOf(p)
		got, f := parse.Parse(s)
		if f != (api.Fault{}) || !alike(got, p) || !parse.Same(got, p) {
			t.Fatalf("%q: %v, %v; want %v", s, got, f, p)
		}
		if parse.Same(got, last) != alike(got, last) {
			t.Fatal(i, got, last)
		}
		last = p
	}
}
