package print_test

import (
	"math/rand"
	"protean/api"
	"protean/lex"
	"protean/parse"
	"protean/print"
	"slices"
	"strings"
	"testing"
)

// forms is what chapter 2 says of each kind of statement: X, Y and P stand for names, S for a sign, A for all operands, 0 and 1 for those at these places, N for all of `new`, T and E for the blocks.
func forms() []string {
	return []string{
		api.StMove:   "X = 0 ;",
		api.StArith:  "X = 0 S 1 ;",
		api.StGet:    "X = Y . P ;",
		api.StSet:    "X . P = 0 ;",
		api.StNew:    "X = new { N ;",
		api.StCall:   "X = call P ( A ) ;",
		api.StApply:  "X = Y ( A ) ;",
		api.StIn:     "X = in ;",
		api.StOut:    "out 0 ;",
		api.StIf:     "if 0 { T } E",
		api.StWhile:  "while 0 { T }",
		api.StReturn: "return 0 ;",
	}
}

// byForm lays a statement by its form, or tells that no text is it: all that the form does not name must be empty.
func byForm(s api.Stmt) (string, bool) {
	if s.Op < 0 || s.Op >= len(forms()) {
		return "", false
	}
	form, may := strings.Fields(forms()[s.Op]), true
	var out []string
	put := func(is bool, l ...string) {
		may = may && is
		out = append(out, l...)
	}
	left, operands := s, 0
	left.Op = 0
	for _, w := range form {
		switch w {
		case "X":
			put(isName(s.X), s.X)
			left.X = ""
		case "Y":
			put(isName(s.Y), s.Y)
			left.Y = ""
		case "P":
			put(isName(s.P), s.P)
			left.P = ""
		case "S":
			put(len(s.P) == 1 && strings.Contains("+-*<=", s.P), s.P)
			left.P = ""
		case "0", "1":
			operands++
			if len(s.A) < operands {
				return "", false
			}
			text, is := operandText(s.A[operands-1])
			put(is, text)
		case "A":
			operands = len(s.A)
			text, is := argumentsByForm(s)
			put(is, text...)
		case "N":
			operands = len(s.Props) + 1
			if len(s.A) != operands {
				return "", false
			}
			text, is := objectByForm(s)
			put(is, text...)
			left.Props = nil
		case "T":
			text, is := blockByForm(s.Then)
			put(is, text...)
			left.Then = nil
		case "E":
			if len(s.Else) > 0 {
				text, is := blockByForm(s.Else)
				put(is, append([]string{"else", "{"}, append(text, "}")...)...)
			}
			left.Else = nil
		default:
			put(true, w)
		}
	}
	may = may && len(s.A) == operands && left.X+left.Y+left.P == "" && len(left.Props)+len(left.Then)+len(left.Else) == 0
	return strings.Join(out, " "), may
}

func blockByForm(l []api.Stmt) ([]string, bool) {
	var out []string
	for _, s := range l {
		text, may := byForm(s)
		if !may {
			return nil, false
		}
		out = append(out, text)
	}
	return out, true
}

func argumentsByForm(s api.Stmt) (out []string, may bool) {
	may = true
	for i, o := range s.A {
		text, is := operandText(o)
		out, may = append(out, parted(i, text)...), may && is
	}
	return out, may
}

func objectByForm(s api.Stmt) (out []string, may bool) {
	may = true
	for i, name := range s.Props {
		text, is := operandText(s.A[i])
		out, may = append(out, parted(i, name, ":", text)...), may && is && isName(name)
	}
	text, is := operandText(s.A[len(s.Props)])
	return append(out, "}", "proto", text), may && is
}

func parted(i int, l ...string) []string {
	if i > 0 {
		return append([]string{","}, l...)
	}
	return l
}

func isName(s string) bool { return lex.Word(s) && !parse.Keyword(s) }

func operandText(o api.Operand) (string, bool) {
	for text, x := range operands() {
		if x == o {
			return text, true
		}
	}
	return "", false
}

// each yields all choices of one of each list.
func each(sizes []int, yield func([]int)) {
	at := make([]int, len(sizes))
	for {
		yield(at)
		i := 0
		for i < len(at) && at[i] == sizes[i]-1 {
			at[i] = 0
			i++
		}
		if i == len(at) {
			return
		}
		at[i]++
	}
}

// P3.1: all statements that are made of a few fields, right and wrong ones, held against the forms.
func TestStatementsOfAllFields(t *testing.T) {
	xs, ys, ps := []string{"", "x", "in"}, []string{"", "y"}, []string{"", "p", "*", "if"}
	as := [][]api.Operand{nil, {one}, {varA, null}, {no, {Kind: api.OpNull, N: 1}}, {yes, funG, number(0)}, {{Kind: 5}}}
	props := [][]string{nil, {"p"}, {"p", "q"}, {"p", ""}}
	blocks := [][]api.Stmt{nil, {moved}, {moved, {Op: api.StIf, A: ops(null), Else: []api.Stmt{moved}}}, {{Op: api.StMove}}}
	right, wrong := 0, 0
	each([]int{15, len(xs), len(ys), len(ps), len(as), len(props), len(blocks), len(blocks)}, func(at []int) {
		s := api.Stmt{Op: at[0] - 1, X: xs[at[1]], Y: ys[at[2]], P: ps[at[3]], A: as[at[4]], Props: props[at[5]], Then: blocks[at[6]], Else: blocks[at[7]]}
		text, may := byForm(s)
		if !may {
			wrong++
			wantNoStmt(t, text, s)
			return
		}
		right++
		wantStmt(t, s, text)
	})
	if right != 30 || wrong < 100000 {
		t.Error(right, wrong)
	}
}

// writer makes texts by the grammar, as they are printed; always the same ones.
type writer struct {
	*rand.Rand
	strings.Builder
	left int // statements
}

func (w *writer) pick(l ...string) string { return l[w.Intn(len(l))] }

// lay writes the form: N for a name, O for an operand, S for a sign, B for a block, L for a list of what stands behind it.
func (w *writer) lay(form string, deep int) {
	l := strings.Fields(form)
	for i := 0; i < len(l); i++ {
		switch l[i] {
		case "N":
			w.WriteString(w.pick("x", "y", "zz", "p_1", "Null", "funs", "i", "main") + " ")
		case "O":
			w.lay(w.pick("null", "true", "false", "0", "7", "999999999", "& N", "N"), deep)
		case "S":
			w.WriteString(w.pick("+", "-", "*", "<", "=") + " ")
		case "B":
			w.block(w.Intn(4), deep+1)
		case "E":
			if w.Intn(2) == 0 && w.left > 0 {
				w.WriteString("else ")
				w.block(1+w.Intn(3), deep+1)
			}
		case "L":
			i++
			for k := range w.Intn(4) {
				if k > 0 {
					w.WriteString(", ")
				}
				w.lay(strings.ReplaceAll(l[i], ".", " "), deep)
			}
		default:
			w.WriteString(l[i] + " ")
		}
	}
}

func (w *writer) block(n, deep int) {
	w.WriteString("{ ")
	for range min(n, w.left) {
		if w.left--; w.left < 0 {
			break
		}
		form := w.pick("out O ;", "return O ;", "if O B E", "while O B", "N . N = O ;", "N = in ;", "N = call N ( L O ) ;", "N = new { L N.:.O } proto O ;", "N = N . N ;", "N = N ( L O ) ;", "N = O ;", "N = O S O ;")
		if deep == 32 && strings.Contains(form, "B") {
			form = "N = in ;"
		}
		w.lay(form, deep)
	}
	w.WriteString("} ")
}

func (w *writer) program(stmts int) string {
	w.Reset()
	w.left = stmts
	var out strings.Builder
	for range w.Intn(4) {
		w.lay("fun N ( L N ) B", 0)
		out.WriteString(strings.TrimSuffix(w.String(), " ") + "\n")
		w.Reset()
	}
	return out.String()
}

// wantFollows is P3.2 for one source, whatever it is.
func wantFollows(t *testing.T, source string) {
	t.Helper()
	p, f := parse.Parse(source)
	if f != (api.Fault{}) {
		return
	}
	l, _ := lex.Lex(source)
	text := print.Program(p)
	if !print.May(p) {
		// A program's text has no more tokens than the source, and these are no longer; the last one has a byte 10 behind it.
		if text != "" || len(lex.Print(l))+1 <= 65536 {
			t.Errorf("%.80q: is not printed", source)
		}
		return
	}
	q, f := parse.Parse(text)
	if f != (api.Fault{}) || !parse.Same(p, q) || len(text) > 65536 {
		t.Errorf("%.80q: %.80q, %v", source, text, f)
	}
	if again := print.Program(q); again != text || !print.May(q) {
		t.Errorf("%.80q: %.80q; and again %.80q", source, text, again)
	}
	for _, fun := range p.Funcs {
		for _, s := range fun.Body {
			wantStmtFollows(t, s, text)
		}
	}
}

func wantStmtFollows(t *testing.T, s api.Stmt, whole string) {
	t.Helper()
	text := print.Stmt(s)
	if q, f := parse.Parse("fun f ( ) { " + text + " }\n"); f != (api.Fault{}) || !parse.Same(q, alone(s)) {
		t.Errorf("%.80q: %v", text, f)
	}
	if text == "" || !strings.Contains(whole, " "+text+" ") {
		t.Errorf("%.80q is not in %.80q", text, whole)
	}
}

// P3.1, P3.2: what is laid by the grammar is printed as it was.
func TestMadeTextsArePrintedAsTheyWere(t *testing.T) {
	w := &writer{Rand: rand.New(rand.NewSource(1))}
	longest := 0
	for range 3000 {
		s := w.program(60)
		p, f := parse.Parse(s)
		if f != (api.Fault{}) {
			t.Fatalf("%q: %v", s, f)
		}
		wantText(t, p, s)
		wantFollows(t, s)
		wantFollows(t, strings.ReplaceAll(s, " } ", " } # a remark\n\t"))
		longest = max(longest, len(s))
	}
	if longest < 1000 {
		t.Error(longest)
	}
}

// P3.2: other ways to write the same are printed one way.
func TestOtherWaysToWriteTheSame(t *testing.T) {
	for source, want := range map[string]string{
		"":                                       "",
		" # nothing":                             "",
		"fun f(){}":                              "fun f ( ) { }\n",
		"fun f(a){x=a.p;}":                       "fun f ( a ) { x = a . p ; }\n",
		"fun f(){out 007;}":                      "fun f ( ) { out 7 ; }\n",
		"fun f(){out 000;}":                      "fun f ( ) { out 0 ; }\n",
		"fun f(){x=1-01;}":                       "fun f ( ) { x = 1 - 1 ; }\n",
		"fun f(){if a{}else{}}":                  "fun f ( ) { if a { } }\n",
		"fun f(){if a{}else{if b{}else{}}}":      "fun f ( ) { if a { } else { if b { } } }\n",
		"fun f(){}\n\n\tfun g(){out\r\n&g;}#end": "fun f ( ) { }\nfun g ( ) { out & g ; }\n",
	} {
		p, f := parse.Parse(source)
		if f != (api.Fault{}) {
			t.Error(source, f)
		}
		wantText(t, p, want)
		wantFollows(t, source)
	}
}

// P3.2: what is parsed may not be printed only where its text is too long.
func TestSourcesWhoseTextIsTooLong(t *testing.T) {
	ones := func(n int) string { return "fun f(){x=y(" + strings.Repeat("1,", n) + "1);}" }
	frame := len("fun f ( ) { x = y ( 1 ) ; }\n")
	fits := (65536 - frame) / 4
	for _, n := range []int{fits - 1, fits} {
		p, _ := parse.Parse(ones(n))
		if s := print.Program(p); len(s) != frame+4*n || !print.May(p) {
			t.Error(n, len(s))
		}
		wantFollows(t, ones(n))
	}
	for _, n := range []int{fits + 1, 2*fits - 100} {
		p, f := parse.Parse(ones(n))
		if f != (api.Fault{}) {
			t.Error(n, f)
		}
		wantNone(t, "too long", p)
		wantNoStmt(t, "too long", p.Funcs[0].Body[0])
	}
	// A source that is longer than its text may be printed.
	wide := strings.ReplaceAll("fun f ( ) { out 1 ; }", " ", strings.Repeat(" ", 7000))
	p, f := parse.Parse(wide)
	if s := print.Program(p); f != (api.Fault{}) || s != "fun f ( ) { out 1 ; }\n" {
		t.Error(s, f)
	}
}

func FuzzProgram(f *testing.F) {
	for _, s := range []string{"", "fun f(a){x=a.p;}", "fun f() { if a {} else { x = in; } }", "fun f(){x=new{p:&g,q:007}proto null;while true{y=x(1);}}"} {
		f.Add(s)
	}
	f.Fuzz(wantFollows)
}

// What is no statement comes of bytes, too.
func FuzzStmt(f *testing.F) {
	f.Add(1, "x", "y", "+", 2, 1, "a", "p", 1)
	f.Add(4, "x", "", "", 4, 0, "a", "p,q", 0)
	f.Fuzz(func(t *testing.T, op int, x, y, p string, kind, n int, name, props string, more int) {
		o := api.Operand{Kind: kind, N: n, Name: name}
		s := api.Stmt{Op: op, X: x, Y: y, P: p, A: slices.Repeat(ops(o), max(0, more%5))}
		if props != "" {
			s.Props = strings.Split(props, ",")
		}
		if more%3 == 0 {
			s.Then = []api.Stmt{moved}
		}
		text := print.Stmt(s)
		if print.May(alone(s)) != (text != "") {
			t.Error(s, text)
		}
		if q, f := parse.Parse("fun f ( ) { " + text + " }\n"); text != "" && (f != (api.Fault{}) || !parse.Same(q, alone(s))) {
			t.Error(s, text, f)
		}
	})
}
