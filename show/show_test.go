package show_test

import (
	"math"
	"strings"
	"testing"

	"bushel/api"
	"bushel/show"
)

type expr = api.Expr

func v(s string) expr                     { return expr{Kind: api.Var, S: s} }
func n(i int64) expr                      { return expr{Kind: api.Int, N: i} }
func mk(kind int, l ...expr) expr         { return expr{Kind: kind, L: l} }
func mks(k int, s string, l ...expr) expr { return expr{Kind: k, S: s, L: l} }

// whole are expressions with their own texts; plain tells whether that needs no brackets as a part.
var whole = []struct {
	e     expr
	text  string
	plain bool
}{
	{n(0), "0", true},
	{n(math.MaxInt64), "9223372036854775807", true},
	{mks(api.Text, "a\n\"\\"), `"a\n\"\\"`, true},
	{v("x"), "x", true},
	{mk(api.Read), "read", true},
	{mks(api.Fn, "x", n(1)), "fn x -> 1", false},
	{mk(api.App, v("f"), v("x")), "f x", false},
	{mks(api.Let, "x", n(1), n(2)), "let x = 1 in 2", false},
	{expr{Kind: api.Rec, S: "f", T: "x", L: []expr{n(1), n(2)}}, "let rec f x = 1 in 2", false},
	{mk(api.Record), "{}", true},
	{expr{Kind: api.Record, Labels: []string{"a", "b"}, L: []expr{n(1), mk(api.App, v("f"), v("x"))}}, "{a = 1, b = f x}", true},
	{mks(api.Sel, "a", v("r")), "r.a", false},
	{mks(api.Cut, "a", v("r")), `r\a`, false},
	{mks(api.Ext, "a", mk(api.App, v("f"), v("x")), mk(api.App, v("g"), v("y"))), "{a = f x | g y}", true},
	{mks(api.Upd, "a", mk(api.App, v("f"), v("x")), v("r")), "{r with a = f x}", true},
	{mks(api.Upd, "a", n(1), mk(api.App, v("g"), v("y"))), "{(g y) with a = 1}", true},
	{mks(api.Tag, "A", n(1)), "A 1", false},
	{expr{Kind: api.Match, Labels: []string{"A", "B"}, Names: []string{"x", "y"}, T: "z", L: []expr{mk(api.App, v("f"), v("x")), n(1), mk(api.Ref, n(4)), n(3)}},
		"match f x with | A x -> 1 | B y -> ref 4 | z -> 3 end", false},
	{expr{Kind: api.Match, Labels: []string{"A"}, Names: []string{"x"}, L: []expr{n(0), n(1)}}, "match 0 with | A x -> 1 end", false},
	{expr{Kind: api.Match, T: "z", L: []expr{n(0), n(1)}}, "match 0 with | z -> 1 end", false},
	{mk(api.If, n(1), n(2), n(3)), "if 1 then 2 else 3", false},
	{mks(api.Op, "==", n(1), n(2)), "1 == 2", false},
	{mk(api.Ref, n(1)), "ref 1", false},
	{mk(api.Get, v("r")), "!r", false},
	{mk(api.Set, v("r"), n(1)), "r := 1", false},
	{mk(api.Print, v("s")), "print s", false},
	{mk(api.Show, n(1)), "show 1", false},
}

// around puts an expression into others: with brackets, if it needs them, and without.
func around(e expr, text string, plain bool) map[string]expr {
	p := text
	if !plain {
		p = "(" + text + ")"
	}
	return map[string]expr{
		p + " " + p:                             mk(api.App, e, e),
		p + ".a":                                mks(api.Sel, "a", e),
		p + `\a`:                                mks(api.Cut, "a", e),
		"{" + p + " with a = " + text + "}":     mks(api.Upd, "a", e, e),
		"{a = " + text + " | " + text + "}":     mks(api.Ext, "a", e, e),
		"{a = " + text + "}":                    {Kind: api.Record, Labels: []string{"a"}, L: []expr{e}},
		"A " + p:                                mks(api.Tag, "A", e),
		"ref " + p:                              mk(api.Ref, e),
		"print " + p:                            mk(api.Print, e),
		"show " + p:                             mk(api.Show, e),
		"!" + p:                                 mk(api.Get, e),
		p + " + " + p:                           mks(api.Op, "+", e, e),
		p + " # " + p:                           mks(api.Op, "#", e, e),
		p + " := " + p:                          mk(api.Set, e, e),
		"fn q -> " + text:                       mks(api.Fn, "q", e),
		"let q = " + text + " in " + text:       mks(api.Let, "q", e, e),
		"let rec q p = " + text + " in " + text: {Kind: api.Rec, S: "q", T: "p", L: []expr{e, e}},
		"if " + text + " then " + text + " else " + text:                        mk(api.If, e, e, e),
		"match " + text + " with | A x -> " + text + " | y -> " + text + " end": {Kind: api.Match, Labels: []string{"A"}, Names: []string{"x"}, T: "y", L: []expr{e, e, e}},
	}
}

// P6.1
func TestText(t *testing.T) {
	for _, c := range whole {
		if got, err := show.Text(c.e); got != c.text || err != nil {
			t.Errorf("%q, not %q: %v", got, c.text, err)
		}
		for want, e := range around(c.e, c.text, c.plain) {
			if got, err := show.Text(e); got != want || err != nil {
				t.Errorf("%q, not %q: %v", got, want, err)
			}
		}
	}
	if got, _ := show.Text(mk(api.App, v("f"), mk(api.App, v("g"), v("x")))); got != "f (g x)" {
		t.Error(got)
	}
}

// P6.1, P1
func TestTextRefuses(t *testing.T) {
	deep := n(1)
	for range api.MaxDepth {
		deep = mk(api.Ref, deep)
	}
	for _, e := range []expr{{}, n(-1), v("let"), v(""), mk(api.App, n(1)), mk(api.Ref, v("A")), mks(api.Text, "\t"), mk(api.Match, n(1)), deep, {Kind: -1}} {
		if got, err := show.Text(e); got != "" || err != api.ErrArg {
			t.Errorf("%q %v", got, err)
		}
	}
}

// P6.2
func TestUnlikeTexts(t *testing.T) {
	seen := map[string]expr{}
	for _, c := range whole {
		all := around(c.e, c.text, c.plain)
		all[c.text] = c.e
		for _, e := range all {
			text, err := show.Text(e)
			if err != nil {
				t.Fatal(err)
			}
			if _, was := seen[text]; was {
				t.Errorf("%q twice", text)
			}
			seen[text] = e
		}
	}
	if len(seen) != len(whole)*20 {
		t.Error(len(seen))
	}
}

// R2: what is shown stays as it is, and At makes no difference.
func TestNothingIsChanged(t *testing.T) {
	e := whole[17].e
	was, _ := show.Text(e)
	e.At = 5
	if again, _ := show.Text(e); again != was || strings.Join(e.Labels, "") != "AB" || strings.Join(e.Names, "") != "xy" {
		t.Error(again)
	}
}
