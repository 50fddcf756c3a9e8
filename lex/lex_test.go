package lex_test

import (
	"protean/api"
	"protean/lex"
	"slices"
	"strings"
	"testing"
	"unsafe"
)

const (
	word = api.TokWord
	num  = api.TokNum
	sign = api.TokSign

	letters = "abcdefghijklmnopqrstuvwxyzABCDEFGHIJKLMNOPQRSTUVWXYZ"
	digits  = "0123456789"
	signs   = "{}(),;.=+-*<&:"
	blanks  = "\t\n\r "
)

func wantTokens(t *testing.T, s string, want ...api.Token) {
	t.Helper()
	l, f := lex.Lex(s)
	if f != (api.Fault{}) || !slices.Equal(l, want) {
		t.Errorf("Lex(%.60q): %v, %v; want %v", s, l, f, want)
	}
}

func wantFault(t *testing.T, s string, want api.Fault) {
	t.Helper()
	l, f := lex.Lex(s)
	if f != want || len(l) != 0 {
		t.Errorf("Lex(%.60q): %v, %v; want %v", s, l, f, want)
	}
}

func wantBadByte(t *testing.T, s string, at int) {
	t.Helper()
	wantFault(t, s, api.Fault{Code: api.ErrLexByte, At: at})
}

// P1.1: ordinary sources.

func TestLexOrdinary(t *testing.T) {
	wantTokens(t, "x=y.p;",
		api.Token{Kind: word, Text: "x", At: 0}, api.Token{Kind: sign, Text: "=", At: 1},
		api.Token{Kind: word, Text: "y", At: 2}, api.Token{Kind: sign, Text: ".", At: 3},
		api.Token{Kind: word, Text: "p", At: 4}, api.Token{Kind: sign, Text: ";", At: 5})
	wantTokens(t, " return 12\t;\r\n}",
		api.Token{Kind: word, Text: "return", At: 1}, api.Token{Kind: num, Text: "12", At: 8},
		api.Token{Kind: sign, Text: ";", At: 11}, api.Token{Kind: sign, Text: "}", At: 14})
	wantTokens(t, "&f-1", api.Token{Kind: sign, Text: "&", At: 0}, api.Token{Kind: word, Text: "f", At: 1},
		api.Token{Kind: sign, Text: "-", At: 2}, api.Token{Kind: num, Text: "1", At: 3})
}

func TestLexNothing(t *testing.T) {
	for _, s := range []string{"", " ", blanks, "#", "# only a remark", "#\n", " # a\n\t# b"} {
		wantTokens(t, s)
	}
}

func TestLexEachByteAlone(t *testing.T) {
	for i := range 256 {
		b := string([]byte{byte(i)})
		switch {
		case strings.Contains(letters, b):
			wantTokens(t, b, api.Token{Kind: word, Text: b})
		case strings.Contains(digits, b):
			wantTokens(t, b, api.Token{Kind: num, Text: b})
		case strings.Contains(signs, b):
			wantTokens(t, b, api.Token{Kind: sign, Text: b})
		case strings.Contains(blanks+"#", b):
			wantTokens(t, b)
		default:
			wantBadByte(t, b, 0)
		}
	}
}

func TestLexEachByteBehindAWord(t *testing.T) {
	for i := range 256 {
		b := string([]byte{byte(i)})
		first := api.Token{Kind: word, Text: "a"}
		switch {
		case strings.Contains(letters+digits+"_", b):
			wantTokens(t, "a"+b, api.Token{Kind: word, Text: "a" + b})
		case strings.Contains(signs, b):
			wantTokens(t, "a"+b, first, api.Token{Kind: sign, Text: b, At: 1})
		case strings.Contains(blanks+"#", b):
			wantTokens(t, "a"+b, first)
		default:
			wantBadByte(t, "a"+b, 1)
		}
	}
}

func TestLexEachByteBehindANumber(t *testing.T) {
	for i := range 256 {
		b := string([]byte{byte(i)})
		first := api.Token{Kind: num, Text: "1"}
		switch {
		case strings.Contains(digits, b):
			wantTokens(t, "1"+b, api.Token{Kind: num, Text: "1" + b})
		case strings.Contains(signs, b):
			wantTokens(t, "1"+b, first, api.Token{Kind: sign, Text: b, At: 1})
		case strings.Contains(blanks+"#", b):
			wantTokens(t, "1"+b, first)
		case strings.Contains(letters+"_", b):
			wantBadByte(t, "1"+b, 0)
		default:
			wantBadByte(t, "1"+b, 1)
		}
	}
}

// P1.1: words, numbers and signs at their edges.

func TestLexWordsAreAsLongAsTheyCanBe(t *testing.T) {
	wantTokens(t, "aZ_09_z", api.Token{Kind: word, Text: "aZ_09_z"})
	wantTokens(t, "a_ b__", api.Token{Kind: word, Text: "a_"}, api.Token{Kind: word, Text: "b__", At: 3})
	wantTokens(t, "x12345678901", api.Token{Kind: word, Text: "x12345678901"})
	wantBadByte(t, "a _b", 2)
}

func TestLexSignsAreOneByte(t *testing.T) {
	wantTokens(t, "==", api.Token{Kind: sign, Text: "="}, api.Token{Kind: sign, Text: "=", At: 1})
	var want []api.Token
	for i := range len(signs) {
		want = append(want, api.Token{Kind: sign, Text: signs[i : i+1], At: i})
	}
	wantTokens(t, signs, want...)
}

func TestLexDigits(t *testing.T) {
	for _, s := range []string{"0", "00", "007", "123456789", "999999999", "000000000"} {
		wantTokens(t, s, api.Token{Kind: num, Text: s})
		wantTokens(t, s+";", api.Token{Kind: num, Text: s}, api.Token{Kind: sign, Text: ";", At: len(s)})
	}
	for _, s := range []string{"1234567890", "0000000000", strings.Repeat("9", 100), strings.Repeat("1", api.MaxText)} {
		wantBadByte(t, s, 0)
	}
	wantBadByte(t, "123456789 1234567890", 10)
	wantTokens(t, "123456789 0", api.Token{Kind: num, Text: "123456789"}, api.Token{Kind: num, Text: "0", At: 10})
}

func TestLexDigitsAheadOfALetter(t *testing.T) {
	for _, s := range []string{"12a", "1_", "1Z", "0x1", "123456789a", "1234567890a", "123456789_"} {
		wantBadByte(t, s, 0)
		wantBadByte(t, "x = "+s, 4)
	}
	wantTokens(t, "1 a", api.Token{Kind: num, Text: "1"}, api.Token{Kind: word, Text: "a", At: 2})
	wantTokens(t, "1#a", api.Token{Kind: num, Text: "1"})
	wantTokens(t, "1.a", api.Token{Kind: num, Text: "1"}, api.Token{Kind: sign, Text: ".", At: 1}, api.Token{Kind: word, Text: "a", At: 2})
}

// P1.1: remarks.

func TestLexRemarks(t *testing.T) {
	a := api.Token{Kind: word, Text: "a"}
	wantTokens(t, "a# b", a)
	wantTokens(t, "a# b\n", a)
	wantTokens(t, "a#\nb", a, api.Token{Kind: word, Text: "b", At: 3})
	wantTokens(t, "a# x # y\r z\nb", a, api.Token{Kind: word, Text: "b", At: 12})
	wantTokens(t, "#\n#\na", api.Token{Kind: word, Text: "a", At: 4})
	var all []byte
	for i := range 256 {
		if i != 10 {
			all = append(all, byte(i))
		}
	}
	wantTokens(t, "a#"+string(all), a)
	wantTokens(t, "a#"+string(all)+"\n;", a, api.Token{Kind: sign, Text: ";", At: len(all) + 3})
	wantBadByte(t, "# ?\n?", 4)
}

// P1.1: bytes at which nothing begins.

func TestLexTheFirstBadByte(t *testing.T) {
	wantBadByte(t, "x = ? 12a", 4)
	wantBadByte(t, "x = 12a ?", 4)
	wantBadByte(t, "x\x00", 1)
	wantBadByte(t, "\xff", 0)
	wantBadByte(t, "a\xc3\xa9", 1)
	wantBadByte(t, "1\xc3\xa9", 1)
	wantBadByte(t, "x=y.p; # it\n_", 12)
	wantBadByte(t, "a\vb", 1)
	wantBadByte(t, "a\fb", 1)
}

// P1.1: how long a source may be.

func TestLexLength(t *testing.T) {
	if api.MaxText != 65536 {
		t.Fatal(api.MaxText)
	}
	full := strings.Repeat("a", 65536)
	wantTokens(t, full, api.Token{Kind: word, Text: full})
	wantTokens(t, strings.Repeat(" ", 65535)+"7", api.Token{Kind: num, Text: "7", At: 65535})
	wantTokens(t, strings.Repeat("#", 65536))
	wantBadByte(t, strings.Repeat(" ", 65535)+"?", 65535)
	if l, f := lex.Lex(strings.Repeat(";", 65536)); f != (api.Fault{}) || len(l) != 65536 || l[65535].At != 65535 {
		t.Error(len(l), f)
	}
	for _, b := range []string{"a", " ", "#", "1", ";", "?", "\n"} {
		wantFault(t, strings.Repeat(b, 65537), api.Fault{Code: api.ErrLexLong})
	}
	wantFault(t, "?"+full, api.Fault{Code: api.ErrLexLong})
	wantFault(t, strings.Repeat("a", 1<<20), api.Fault{Code: api.ErrLexLong})
}

// P1.2.

func TestWord(t *testing.T) {
	for _, s := range []string{"a", "Z", "a1", "a_", "a__9", "fun", "null", strings.Repeat("a", 65536)} {
		if !lex.Word(s) {
			t.Errorf("%.60q is a word", s)
		}
	}
	for _, s := range []string{"", "_", "_a", "1", "1a", " a", "a ", "a b", "a\n", "a#", "#", "a.b", ";", "a\x00", "\xe9", "a\xc3\xa9", strings.Repeat("a", 65537)} {
		if lex.Word(s) {
			t.Errorf("%.60q is no word", s)
		}
	}
}

func TestMayOfOneToken(t *testing.T) {
	good := map[int][]string{
		word: {"a", "a1_Z", "while", strings.Repeat("z", 65536)},
		num:  {"0", "007", "123456789", "000000000"},
		sign: strings.Split(signs, ""),
	}
	bad := map[int][]string{
		word: {"", "_", "1", "1a", ";", "a b", " a", "a ", "a-b", strings.Repeat("z", 65537)},
		num:  {"", "a", "1a", "a1", "-1", "+1", "1 ", " 1", "1.5", "1_0", "1234567890", "0000000000", strings.Repeat("1", 65537), "\xb2"},
		sign: {"", "==", "{}", "a", "1", "_", "#", " ", "\n", "?", ">", "[", "/", "\x00", "\xff", signs, strings.Repeat(";", 65537)},
	}
	for _, at := range []int{0, 5, -1, 1 << 40} {
		for kind := range good {
			for _, s := range good[kind] {
				if !lex.May([]api.Token{{Kind: kind, Text: s, At: at}}) {
					t.Errorf("kind %d, %.60q may be", kind, s)
				}
			}
			for _, s := range bad[kind] {
				if lex.May([]api.Token{{Kind: kind, Text: s, At: at}}) {
					t.Errorf("kind %d, %.60q may not be", kind, s)
				}
			}
		}
	}
	for _, kind := range []int{-1, 3, 4, 1 << 40, -1 << 40} {
		for _, s := range []string{"", "a", "1", ";"} {
			if lex.May([]api.Token{{Kind: kind, Text: s}}) {
				t.Errorf("kind %d may not be", kind)
			}
		}
	}
}

func TestMayOfEachByte(t *testing.T) {
	for i := range 256 {
		b := string([]byte{byte(i)})
		for kind, known := range []string{letters, digits, signs} {
			if got := lex.May([]api.Token{{Kind: kind, Text: b}}); got != strings.Contains(known, b) {
				t.Errorf("kind %d, %q: %v", kind, b, got)
			}
		}
	}
}

func TestMayAsksEachToken(t *testing.T) {
	l := []api.Token{{Kind: word, Text: "a"}, {Kind: num, Text: "1"}, {Kind: sign, Text: ";"}}
	if !lex.May(l) || !lex.May(nil) || !lex.May([]api.Token{}) {
		t.Error("these may be")
	}
	for i := range l {
		wrong := slices.Clone(l)
		wrong[i].Text = "?"
		if lex.May(wrong) || lex.Print(wrong) != "" {
			t.Error(wrong)
		}
	}
}

func TestPrint(t *testing.T) {
	l := []api.Token{{Kind: word, Text: "x", At: 9}, {Kind: sign, Text: "=", At: -1}, {Kind: num, Text: "007"}, {Kind: sign, Text: ";"}}
	for n, want := range []string{"", "x", "x =", "x = 007", "x = 007 ;"} {
		if got := lex.Print(l[:n]); got != want {
			t.Errorf("%q, want %q", got, want)
		}
	}
	for _, none := range [][]api.Token{nil, {}, {{}}, {{Kind: 3, Text: "a"}}, {{Kind: -1, Text: "a"}}, {{Kind: word, Text: "a b"}}, {l[0], {Kind: num, Text: "1234567890"}}} {
		if got := lex.Print(none); got != "" {
			t.Errorf("%v: %q", none, got)
		}
	}
}

func TestPrintMayBeLongerThanASource(t *testing.T) {
	full := strings.Repeat("a", 65536)
	l := []api.Token{{Kind: word, Text: full}, {Kind: word, Text: full}}
	if got := lex.Print(l); got != full+" "+full {
		t.Error(len(got))
	}
}

// R4: arguments stay as they are, answers are new memory.

func TestArgumentsStayAndAnswersAreNew(t *testing.T) {
	s := strings.Repeat("ab ", 3) + "12;"
	l, _ := lex.Lex(s)
	from := uintptr(unsafe.Pointer(unsafe.StringData(s)))
	for _, x := range l {
		if p := uintptr(unsafe.Pointer(unsafe.StringData(x.Text))); from <= p && p < from+uintptr(len(s)) {
			t.Error("shared with the source:", x)
		}
	}
	before := slices.Clone(l)
	for n := range len(l) + 1 {
		got := lex.Print(l[:n])
		if n == 1 && unsafe.StringData(got) == unsafe.StringData(l[0].Text) {
			t.Error("shared with the token")
		}
	}
	lex.May(l)
	if !slices.Equal(l, before) {
		t.Error("changed:", l)
	}
	again, _ := lex.Lex(s)
	l[0].Text = "changed"
	if !slices.Equal(again, before) {
		t.Error("shared between answers:", again)
	}
}
