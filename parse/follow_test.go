package parse_test

import (
	"math/rand"
	"protean/api"
	"protean/lex"
	"protean/parse"
	"strings"
	"testing"
)

// wantProgramOrFault is P2.3's first half, for one text.
func wantProgramOrFault(t *testing.T, s string) {
	t.Helper()
	p, f := parse.Parse(s)
	switch f.Code {
	case api.OK:
		if f.At != 0 {
			t.Errorf("%q: %v", s, f)
		}
	case api.ErrLexByte, api.ErrLexLong, api.ErrParse, api.ErrParseDeep, api.ErrParseMany:
		if f.At < 0 || f.At > len(s) || len(p.Funcs) != 0 {
			t.Errorf("%q: %v, %v", s, p, f)
		}
	default:
		t.Errorf("%q: %v", s, f)
	}
}

// wantSpreadAlike is P2.3's second half: with that between its tokens a text is the same program, or has its fault at the same token.
func wantSpreadAlike(t *testing.T, s, between string) {
	t.Helper()
	l, f := lex.Lex(s)
	if f != (api.Fault{}) {
		return
	}
	moved := map[int]int{len(s): 0} // where the tokens, and the end, stand then
	var b strings.Builder
	for _, x := range l {
		b.WriteString(between)
		moved[x.At] = b.Len()
		b.WriteString(x.Text)
	}
	b.WriteString(between)
	moved[len(s)] = b.Len()
	if b.Len() > api.MaxText {
		return
	}
	p, f := parse.Parse(s)
	q, g := parse.Parse(b.String())
	want := f
	if f.Code != api.OK {
		want.At = moved[f.At]
	}
	if g != want || !alike(p, q) || !parse.Same(p, q) {
		t.Errorf("%.80q: %v, %v; with %q: %v, %v", s, p, f, between, q, g)
	}
}

// P2.3: whatever bytes come.
func TestTextsThatAreSpoilt(t *testing.T) {
	m := &maker{Rand: rand.New(rand.NewSource(2))}
	pieces := append(strings.Split("{}(),;.=+-*<&:?_ #\n\xff\x00", ""), "fun", " in ", " x ", " 12 ", "else", "12a", "1234567890")
	for range 3000 {
		m.left = 20
		s := textOf(m.program())
		for range m.Intn(3) {
			at := m.Intn(len(s) + 1)
			upto := at + m.Intn(min(3, len(s)-at+1))
			s = s[:at] + pieces[m.Intn(len(pieces))] + s[upto:]
		}
		wantProgramOrFault(t, s)
		wantSpreadAlike(t, s, " ")
	}
	for b := range 256 {
		wantProgramOrFault(t, string([]byte{byte(b)}))
		wantProgramOrFault(t, "fun f() {"+string([]byte{byte(b)}))
	}
}

// P2.3: remarks and blanks.
func TestBlanksAndRemarksChangeNothing(t *testing.T) {
	sources := []string{whole, "", "fun f() {", "fun f( {", "fun f() { x = 1 1; }", "fun f() { x = 5.p; }"}
	deep, _ := nested(33, "if a")
	sources = append(sources, deep, "fun f() {"+strings.Repeat("x=1;", 2001)+"}")
	for _, between := range []string{" ", "\t", "\n", "\r", "\r\n", "#\n", " # 12a ? \xff { }\n", "#fun\n#g\n\t"} {
		for _, s := range sources {
			wantSpreadAlike(t, s, between)
		}
	}
	m := &maker{Rand: rand.New(rand.NewSource(3))}
	for range 300 {
		m.left = 30
		wantSpreadAlike(t, textOf(m.program()), "\n#\n ")
	}
	// A remark takes away what it holds, up to the line's end alone.
	wantStmts(t, "# x = 2; }\n x = 1; # x = 2;\n", moved)
	wantFaultAtMark(t, "fun f() { x = 1; # }^", api.ErrParse)
}

func FuzzParse(f *testing.F) {
	for _, s := range []string{"", whole, "fun f( {", "fun f() { x = 1", "# \xff\n", "fun f() { if a {} else { x = in; } }"} {
		f.Add(s)
	}
	f.Fuzz(func(t *testing.T, s string) {
		wantProgramOrFault(t, s)
		wantSpreadAlike(t, s, " ")
		wantSpreadAlike(t, s, "# ?\n")
		if p, fault := parse.Parse(s); fault == (api.Fault{}) {
			wantProgram(t, textOf(p), p.Funcs...)
		}
	})
}
