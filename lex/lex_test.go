package lex_test

import (
	"errors"
	"math"
	"slices"
	"strings"
	"testing"

	"bushel/api"
	"bushel/lex"
)

type token = lex.Token

func cut(t *testing.T, s string) []token {
	t.Helper()
	l, err := lex.Cut([]byte(s))
	if err != nil {
		t.Fatalf("%q: %v", s, err)
	}
	return l
}

// P4.1
func TestCut(t *testing.T) {
	name, word, tag, sign := lex.Name, lex.Word, lex.Tag, lex.Sign
	for _, c := range []struct {
		text string
		want []token
	}{
		{"", nil},
		{" \n\t ", nil},
		{"a->b", []token{{name, 0, 0, "a"}, {sign, 1, 0, "->"}, {name, 3, 0, "b"}}},
		{"a1B2c", []token{{name, 0, 0, "a1"}, {tag, 2, 0, "B2c"}}},
		{"Abc0X y", []token{{tag, 0, 0, "Abc0X"}, {name, 6, 0, "y"}}},
		{"12ab", []token{{lex.Number, 0, 12, ""}, {name, 2, 0, "ab"}}},
		{"0 00x"[:2], []token{{lex.Number, 0, 0, ""}}},
		{"9223372036854775807", []token{{lex.Number, 0, math.MaxInt64, ""}}},
		{"lets let", []token{{name, 0, 0, "lets"}, {word, 5, 0, "let"}}},
		{"let1 Let", []token{{name, 0, 0, "let1"}, {tag, 5, 0, "Let"}}},
		{"a:=b", []token{{name, 0, 0, "a"}, {sign, 1, 0, ":="}, {name, 3, 0, "b"}}},
		{"===", []token{{sign, 0, 0, "=="}, {sign, 2, 0, "="}}},
		{"--->", []token{{sign, 0, 0, "-"}, {sign, 1, 0, "-"}, {sign, 2, 0, "->"}}},
		{`"a\n\"\\~ "x`, []token{{lex.Text, 0, 0, "a\n\"\\~ "}, {name, 11, 0, "x"}}},
		{`""""`, []token{{lex.Text, 0, 0, ""}, {lex.Text, 2, 0, ""}}},
	} {
		if got := cut(t, c.text); !slices.Equal(got, c.want) {
			t.Errorf("%q: %v", c.text, got)
		}
	}
}

// P4.1
func TestWords(t *testing.T) {
	for _, s := range strings.Fields("fn let rec in match with end if then else ref print show read") {
		if l := cut(t, s); len(l) != 1 || l[0] != (token{lex.Word, 0, 0, s}) {
			t.Error(l)
		}
	}
	for _, s := range []string{"f", "fnn", "reads", "of", "a23456789012345678z0"} {
		if l := cut(t, s); len(l) != 1 || l[0] != (token{lex.Name, 0, 0, s}) {
			t.Error(l)
		}
	}
}

// P4.1
func TestSigns(t *testing.T) {
	for _, s := range strings.Fields(`( ) { } = . , | \ -> + - * / < == ^ # ! := ;`) {
		if l := cut(t, s); len(l) != 1 || l[0] != (token{lex.Sign, 0, 0, s}) {
			t.Error(s, l)
		}
	}
}

// P4.1: where errors are.
func TestCutRefuses(t *testing.T) {
	long := strings.Repeat("x", api.MaxText)
	for _, c := range []struct {
		text string
		at   int
	}{
		{"a ?", 2},
		{":", 0},
		{"a: =", 1},
		{">", 0},
		{"a\rb", 1},
		{"\x00", 0},
		{"ab\xc3\xa4", 2},
		{"_", 0},
		{" a2345678901234567890z", 1},
		{" Aa2345678901234567890", 1},
		{"x 9223372036854775808", 2},
		{"x 99999999999999999999999", 2},
		{"1 01", 2},
		{"00", 0},
		{`a "b`, 4},
		{`a "b\`, 5},
		{`a "b\t"`, 5},
		{"a \"b\nc\"", 4},
		{"\"\x7f\"", 1},
		{"\"\x1f\"", 1},
		{`"` + long + `x"`, 0},
		{`"` + long + `\n"`, 0},
		{`1"` + long + `x`, 3 + len(long)},
		{`1"` + long + "x\t\"", 3 + len(long)},
		{"? 01", 0},
	} {
		l, err := lex.Cut([]byte(c.text))
		var s *api.Spot
		if l != nil || !errors.As(err, &s) || *s != (api.Spot{At: c.at, Err: api.ErrLex}) {
			t.Errorf("%.30q: %v %v", c.text, l, err)
		}
	}
	if l := cut(t, `"`+long+`"`); len(l) != 1 || l[0].S != long {
		t.Error("a text of as many bytes as may be")
	}
}

// P4.1: which bytes begin a token, and which stand between.
func TestEachByte(t *testing.T) {
	for c := range 256 {
		b := byte(c)
		l, err := lex.Cut([]byte{'a', ' ', b})
		switch {
		case strings.IndexByte(" \n\t", b) >= 0:
			if err != nil || len(l) != 1 {
				t.Error(c, l, err)
			}
		case strings.IndexByte("(){}=.,|\\+-*/<^#!;", b) >= 0, 'a' <= b && b <= 'z', 'A' <= b && b <= 'Z', '0' <= b && b <= '9':
			if err != nil || len(l) != 2 || l[1].At != 2 {
				t.Error(c, l, err)
			}
		default:
			if err == nil {
				t.Error(c, l)
			}
		}
	}
}

// P4.1: too long counts ahead of all else.
func TestTooLong(t *testing.T) {
	if l, err := lex.Cut([]byte("?" + strings.Repeat(" ", api.MaxSource))); l != nil || err != api.ErrLimit {
		t.Error(l, err)
	}
	if l := cut(t, strings.Repeat("a ", api.MaxSource/2)); len(l) != api.MaxSource/2 {
		t.Error(len(l))
	}
}

// P4.2
func TestQuote(t *testing.T) {
	for _, c := range [][2]string{{"", `""`}, {"a b~", `"a b~"`}, {"\n", `"\n"`}, {`"\`, `"\"\\"`}, {"n\nn", `"n\nn"`}} {
		if got, err := lex.Quote(c[0]); got != c[1] || err != nil {
			t.Error(c, got, err)
		}
	}
	for _, s := range []string{"\t", "\x7f", "\x1f", "\r", "ä", "a\x00", strings.Repeat("a", api.MaxText+1)} {
		if got, err := lex.Quote(s); got != "" || err != api.ErrArg {
			t.Error(s, got, err)
		}
	}
}

// P4.3
func TestQuotedIsOneText(t *testing.T) {
	all := "\n"
	for c := byte(' '); c <= '~'; c++ {
		all += string(rune(c))
	}
	for _, s := range []string{"", all, strings.Repeat(all, 20), strings.Repeat(`"`, 1999), strings.Repeat("a", api.MaxText)} {
		q, err := lex.Quote(s)
		if err != nil {
			t.Fatal(err)
		}
		if l := cut(t, q); len(l) != 1 || l[0] != (token{lex.Text, 0, 0, s}) {
			t.Error(len(s), l)
		}
	}
}

// P4.3
func TestTokensRise(t *testing.T) {
	last := -1
	for _, tok := range cut(t, `let rec f x={a=1,b="q"}in f:=!x.a==A12\ b`) {
		if tok.At <= last {
			t.Error(tok, last)
		}
		last = tok.At
	}
}

// P1, T5: any bytes are cut, or refused with a place among them.
func TestAnyBytes(t *testing.T) {
	var seed uint32 = 1
	for range 20000 {
		b := make([]byte, seed%40)
		for i := range b {
			seed = seed*1664525 + 1013904223
			b[i] = byte(seed >> 24)
			if seed&1 == 0 {
				b[i] = `a1A"\= n-:0`[seed>>16%11]
			}
		}
		seed = seed*1664525 + 1013904223
		was := string(b)
		l, err := lex.Cut(b)
		var s *api.Spot
		if err != nil && (l != nil || !errors.As(err, &s) || s.At < 0 || s.At > len(b)) {
			t.Fatalf("%q: %v", b, err)
		}
		if string(b) != was {
			t.Fatal("changed")
		}
	}
}
