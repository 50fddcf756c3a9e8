package lex_test

import (
	"protean/api"
	"protean/lex"
	"regexp"
	"slices"
	"strings"
	"testing"
)

var (
	passed  = regexp.MustCompile(`^(?:[\t\n\r ]|#[^\n]*)+`)
	aWord   = regexp.MustCompile(`^[a-zA-Z][a-zA-Z0-9_]*`)
	aNumber = regexp.MustCompile(`^[0-9]+`)
	noEnd   = regexp.MustCompile(`^(?:[0-9]{10}|[0-9]+[a-zA-Z_])`)
	aSign   = regexp.MustCompile(`^[{}(),;.=+\-*<&:]`)
)

// byRules is the chapter told again, by patterns; for ASCII alone.
func byRules(s string) ([]api.Token, api.Fault) {
	if len(s) > 65536 {
		return nil, api.Fault{Code: 11}
	}
	var l []api.Token
	for at := 0; at < len(s); {
		rest := s[at:]
		at += len(passed.FindString(rest))
		if rest = s[at:]; rest == "" {
			break
		}
		text, kind := "", 0
		for k, pattern := range []*regexp.Regexp{aWord, aNumber, aSign} {
			if found := pattern.FindString(rest); found != "" {
				text, kind = found, k
			}
		}
		if text == "" || noEnd.MatchString(rest) {
			return nil, api.Fault{Code: 10, At: at}
		}
		l = append(l, api.Token{Kind: kind, Text: text, At: at})
		at += len(text)
	}
	return l, api.Fault{}
}

// texts yields all texts of up to n pieces.
func texts(pieces []string, n int, yield func(string)) {
	yield("")
	if n == 0 {
		return
	}
	texts(pieces, n-1, func(s string) {
		for _, p := range pieces {
			yield(p + s)
		}
	})
}

func withoutPlaces(l []api.Token) []api.Token {
	l = slices.Clone(l)
	for i := range l {
		l[i].At = 0
	}
	return l
}

func sameButPlaces(t *testing.T, l []api.Token, s string) {
	t.Helper()
	got, f := lex.Lex(s)
	if f != (api.Fault{}) || !slices.Equal(withoutPlaces(got), withoutPlaces(l)) {
		t.Errorf("Lex(%.60q): %v, %v; want %v", s, got, f, l)
	}
}

// P1.1, on all short texts of all classes.
func TestLexIsByTheRules(t *testing.T) {
	pieces := []string{"a", "Z", "_", "0", "12345", "=", "{", " ", "\n", "#", "?"}
	texts(pieces, 4, func(s string) {
		l, f := lex.Lex(s)
		wantL, wantF := byRules(s)
		if f != wantF || !slices.Equal(l, wantL) {
			t.Fatalf("Lex(%q): %v, %v; want %v, %v", s, l, f, wantL, wantF)
		}
	})
}

// P1.3: tokens are read from their print.
func TestPrintIsReadAsItWas(t *testing.T) {
	pieces := []string{"a", "b_1", "fun", "0", "007", "123456789", "=", ".", "&"}
	var single []api.Token
	for _, p := range pieces {
		kind := api.TokWord
		if aNumber.MatchString(p) {
			kind = api.TokNum
		} else if aSign.MatchString(p) {
			kind = api.TokSign
		}
		single = append(single, api.Token{Kind: kind, Text: p, At: -7})
	}
	for _, x := range single {
		for _, y := range single {
			for _, z := range single {
				l := []api.Token{x, y, z}
				sameButPlaces(t, l, lex.Print(l))
			}
		}
	}
	sameButPlaces(t, nil, lex.Print(nil))
	long := []api.Token{{Kind: api.TokWord, Text: strings.Repeat("w", 65534)}, {Kind: api.TokNum, Text: "1"}}
	sameButPlaces(t, long, lex.Print(long))
}

func TestAllThatIsReadIsPrintedAndReadAgain(t *testing.T) {
	texts([]string{"a", "_", "0", "12345", "=", " ", "\n", "#"}, 4, func(s string) {
		readAgain(t, s)
	})
}

func readAgain(t *testing.T, s string) {
	t.Helper()
	l, f := lex.Lex(s)
	if f != (api.Fault{}) {
		return
	}
	if !lex.May(l) {
		t.Errorf("%q: %v may be", s, l)
	}
	if printed := lex.Print(l); len(printed) <= api.MaxText {
		sameButPlaces(t, l, printed)
	}
}

// P1.3: what is between tokens changes nothing but places.
func TestBlanksAndRemarksChangePlacesAlone(t *testing.T) {
	source := "fun f1(a_b){x=12;y=x+ 7;return&f1;}"
	l, f := lex.Lex(source)
	if f != (api.Fault{}) {
		t.Fatal(f)
	}
	for _, between := range []string{" ", "\t", "\n", "\r", "\r\n", "  ", "#\n", " # 12a ? \xff {\n", "#a\n#b\n\t"} {
		var all strings.Builder
		all.WriteString(between)
		for i, x := range l {
			one := source[:x.At] + between + source[x.At:]
			sameButPlaces(t, l, one)
			wantShifted(t, l, one, i, len(between))
			all.WriteString(x.Text + between)
		}
		sameButPlaces(t, l, all.String())
		sameButPlaces(t, l, source+between)
	}
	sameButPlaces(t, l, source+"# to the end")
}

// wantShifted: the tokens from the one at i on stand so many bytes further behind.
func wantShifted(t *testing.T, l []api.Token, s string, i, by int) {
	t.Helper()
	want := slices.Clone(l)
	for k := i; k < len(want); k++ {
		want[k].At += by
	}
	wantTokens(t, s, want...)
}

// P1.1, P1.3, R1: whatever bytes come.
func FuzzLex(f *testing.F) {
	for _, s := range []string{"", "x=y.p;", "12a", "1234567890", "# \xff\n_", "a\x00", "fun f(a) { return a; }", "\xc3\xa9"} {
		f.Add(s)
	}
	f.Fuzz(func(t *testing.T, s string) {
		l, fault := lex.Lex(s)
		if fault != (api.Fault{}) && (len(l) != 0 || fault.At < 0 || fault.At >= len(s)) {
			t.Errorf("%q: %v, %v", s, l, fault)
		}
		for _, x := range l {
			if x.At < 0 || !strings.HasPrefix(s[x.At:], x.Text) {
				t.Errorf("%q: %v", s, x)
			}
		}
		readAgain(t, s)
	})
}
