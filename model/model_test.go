package model_test

import (
	"fmt"
	"math"
	"slices"
	"strings"
	"testing"

	"bushel/api"
	"bushel/core"
	"bushel/elab"
	"bushel/infer"
	"bushel/model"
	"bushel/parse"
	"bushel/samples"
	"bushel/scope"
	"bushel/syn"
)

type expr = api.Expr

func read(t *testing.T, s string) expr {
	t.Helper()
	e, err := parse.Program([]byte(s))
	if err != nil {
		t.Fatalf("%q: %v", s, err)
	}
	return e
}

// end tells all of how a run ends.
func end(e expr, fuel int, input ...string) string {
	out := model.Run(e, input, fuel)
	told := out.Value
	switch out.Err {
	case api.ErrFault:
		told += fmt.Sprint("fault ", out.Fault)
	case api.ErrStuck:
		told += "stuck"
	case api.ErrFuel:
		told += "fuel"
	}
	if out.Err != api.ErrFault && out.Fault != 0 {
		told += "?"
	}
	return strings.TrimSpace(told + " " + strings.Join(out.Trace, ","))
}

// say prints, and comes to what is told then.
const say = `let say = fn s -> fn x -> let q = print s in x in `

// runs are programs, and how they end.
var runs = [][2]string{
	{`7`, `7`},
	{`0 - 7`, `-7`},
	{`"a"`, `"a"`},
	{`"a\n\"\\~"`, `"a\n\"\\~"`},
	{`fn x -> x`, `fn`},
	{`let rec f x = x in f`, `fn`},
	{`{}`, `{}`},
	{`{b = 1, a = {c = "s"}}`, `{a = {c = "s"}, b = 1}`},
	{`A 1`, `A 1`},
	{`A (B (C {}))`, `A (B (C {}))`},
	{`A {b = B 1}`, `A {b = B 1}`},
	{`A (ref 1)`, `A ref 1`},
	{`ref 1`, `ref 1`},
	{`ref (ref (A 1))`, `ref (ref (A 1))`},
	{`ref {a = ref 1}`, `ref {a = ref 1}`},
	{`A (0 - 1)`, `A -1`},
	{`A (fn x -> x)`, `A fn`},
	// Records.
	{`{a = 1 | {}}`, `{a = 1}`},
	{`{b = 1 | {a = 2, c = 3}}`, `{a = 2, b = 1, c = 3}`},
	{`{a = 1 | {a = 2}}`, `stuck`},
	{`{a = 1 | 2}`, `stuck`},
	{`{a = 1}.a`, `1`},
	{`{a = 1}.b`, `stuck`},
	{`1 .a`, `stuck`},
	{`{a = 1, b = 2, c = 3}\b`, `{a = 1, c = 3}`},
	{`{a = 1}\b`, `stuck`},
	{`(fn x -> x)\b`, `stuck`},
	{`{{a = 1, b = 2} with b = "s"}`, `{a = 1, b = "s"}`},
	{`{{a = 1} with b = 2}`, `stuck`},
	{`{1 with b = 2}`, `stuck`},
	{`let r = {a = 1} in let q = {r with a = 2} in r`, `{a = 1}`},
	{say + `{(say "r" {a = 1}) with b = say "v" 2}`, `stuck v,r`},
	{say + `{b = say "v" 1 | say "r" {}}`, `{b = 1} v,r`},
	{say + `{b = say "b" 1, a = say "a" 2}`, `{a = 2, b = 1} a,b`},
	// Variants.
	{`match B 2 with | A x -> 1 | B y -> y end`, `2`},
	{`match C 2 with | A x -> 1 | B y -> y | z -> z end`, `C 2`},
	{`match C 2 with | A x -> 1 | B y -> y end`, `stuck`},
	{`match 1 with | z -> 2 end`, `stuck`},
	{`match {} with | A x -> 1 end`, `stuck`},
	{`match C 2 with | z -> match z with | C x -> x end end`, `2`},
	// The rest.
	{`x`, `stuck`},
	{`let x = 1 in let f = fn y -> x in let x = 2 in f x`, `1`},
	{`let rec f n = if n then n + f (n - 1) else 0 in f 4`, `10`},
	{`let rec f f = f in f 3`, `3`},
	{`1 2`, `stuck`},
	{say + `1 (say "a" 2)`, `stuck a`},
	{`if 0 - 1 then 2 else 1 1`, `2`},
	{`if "a" then 1 else 2`, `stuck`},
	{`9223372036854775807 + 1`, `-9223372036854775808`},
	{`(0 - 9223372036854775807 - 1) / (0 - 1)`, `-9223372036854775808`},
	{`(0 - 7) / 2`, `-3`},
	{`1 / 0`, `fault 1`},
	{`"a" / 0`, `stuck`},
	{`1 < 2`, `1`},
	{`2 == 3`, `0`},
	{`"a" == "a"`, `stuck`},
	{`"a" ^ "b"`, `"ab"`},
	{`"a" ^ 1`, `stuck`},
	{`1 ^ 2`, `stuck`},
	{`"ab" # 1`, `98`},
	{`"ab" # 2`, `fault 2`},
	{`"ab" # (0 - 1)`, `fault 2`},
	{`let rec f s = f (s ^ s) in f "ab"`, `fault 2`},
	{`let r = ref 1 in let q = r := !r + 1 in !r`, `2`},
	{`ref 1 := 2`, `{}`},
	{`1 := 2`, `stuck`},
	{`!1`, `stuck`},
	{`print "a\n"`, "{} a"},
	{`print 1`, `stuck`},
	{`show (0 - 12)`, `"-12"`},
	{`show "a"`, `stuck`},
	{say + `(say "f" (fn x -> say "c" x)) (say "x" 1)`, `1 f,x,c`},
}

// P17.1
func TestRun(t *testing.T) {
	for _, c := range runs {
		if got := strings.ReplaceAll(end(read(t, c[0]), 10000), "\n", ""); got != c[1] {
			t.Errorf("%s: %s, not %s", c[0], got, c[1])
		}
	}
}

func n(i int64) expr              { return expr{Kind: api.Int, N: i} }
func mk(kind int, l ...expr) expr { return expr{Kind: kind, L: l} }
func v(s string) expr             { return expr{Kind: api.Var, S: s} }

// P17.1: what may not be.
func TestWhatMayNotBe(t *testing.T) {
	no := mk(api.Print, expr{Kind: api.Text, S: "no"})
	one := []string{"a"}
	for i, c := range []struct {
		e    expr
		want string
	}{
		{n(-5), "-5"},
		{expr{}, "stuck"},
		{mk(23, no), "stuck"},
		{mk(-1), "stuck"},
		{mk(api.Int, no), "stuck"},
		{mk(api.App, no), "stuck"},
		{mk(api.If, no, n(1)), "stuck"},
		{mk(api.Print, no, no), "stuck"},
		{expr{Kind: api.Rec, L: []expr{no}}, "stuck"},
		{expr{Kind: api.Record, Labels: one}, "stuck"},
		{expr{Kind: api.Record, L: []expr{no}}, "stuck"},
		{expr{Kind: api.Match, Labels: one, L: []expr{no, no}}, "stuck"},
		{expr{Kind: api.Match, Labels: one, Names: []string{"a", "b"}, L: []expr{no, no}}, "stuck"},
		{expr{Kind: api.Match, Labels: one, Names: one, T: "x", L: []expr{no, no}}, "stuck"},
		{expr{Kind: api.Match, Labels: one, Names: one, L: []expr{no, no, no}}, "stuck"},
		{expr{Kind: api.Match, L: []expr{{Kind: api.Tag, L: []expr{n(1)}}}}, "stuck"},
		{expr{Kind: api.Op, S: "%", L: []expr{n(1), n(2)}}, "stuck"},
		{expr{Kind: api.Record, Labels: []string{"b", "a", "b", ""}, L: []expr{n(1), n(2), n(3), n(4)}}, "{ = 4, a = 2, b = 3}"},
		{expr{Kind: api.Sel, S: "b", L: []expr{{Kind: api.Record, Labels: []string{"b", "a", "b"}, L: []expr{n(1), n(2), n(3)}}}}, "3"},
		{expr{Kind: api.Tag, L: []expr{n(1)}}, "1"},
		{expr{Kind: api.Match, Labels: []string{"B", "A", "A"}, Names: []string{"x", "y", "z"}, L: []expr{{Kind: api.Tag, S: "A", L: []expr{n(1)}}, n(0), v("y"), v("z")}}, "1"},
		{expr{Kind: api.Text, S: "\x00\t\xffa\x7f"}, `"a"`},
		{expr{Kind: api.Fn, L: []expr{no}}, "fn"},
		{expr{Kind: api.Int, N: 4, S: "a", T: "b", Labels: one, Names: one}, "4"},
	} {
		if got := end(c.e, 1000); got != c.want {
			t.Errorf("%d: %s, not %s", i, got, c.want)
		}
	}
}

// P17.1: of a value's text the first MaxText bytes.
func TestLongValues(t *testing.T) {
	long := strings.Repeat("x", api.MaxText)
	for i, c := range [][2]string{
		{end(expr{Kind: api.Text, S: long}, 10), `"` + long[1:]},
		{end(expr{Kind: api.Text, S: long[2:]}, 10), `"` + long[2:] + `"`},
		{end(expr{Kind: api.Text, S: strings.Repeat("\n", 1500)}, 10), `"` + strings.Repeat(`\n`, 999) + `\`},
		{end(read(t, `let r = ref (fn x -> x) in let q = r := r in r`), 100), strings.Repeat("ref (", 400)},
		{end(read(t, `let r = ref 1 in let q = r := {a = r, b = r} in r`), 100), (strings.Repeat("ref {a = ", 300))[:2000]},
		{end(read(t, `let rec f x = fn n -> if n then f {a = x, b = x} (n - 1) else x in f {} 60`), 100000), strings.Repeat("{a = ", 60) + "{}, b = {}}, b = {a = {}, b = {}}}, b = "},
	} {
		if len(c[0]) > api.MaxText || !strings.HasPrefix(c[0], c[1]) || i < 5 && c[0] != c[1] {
			t.Errorf("%d: %.80q, not %.80q", i, c[0], c[1])
		}
	}
	if got := end(read(t, `let rec f x = fn n -> if n then f (A x) (n - 1) else x in f 1 100000`), 100000000); got != strings.Repeat("A (", 666)+"A" {
		t.Error(len(got))
	}
}

// P17.1
func TestRead(t *testing.T) {
	long := strings.Repeat("x", api.MaxText)
	for _, c := range []struct {
		s     string
		input []string
		want  string
	}{
		{`{a = read, b = read}`, []string{"x", "y", "z"}, `{a = "x", b = "y"}`},
		{`let q = print read in read`, []string{"x"}, `fault 3 x`},
		{`read`, nil, `fault 3`},
		{`let s = read in s # 1999`, []string{long}, `120`},
		{`read`, []string{long + "x"}, `fault 2`},
	} {
		if got := end(read(t, c.s), 1000, c.input...); got != c.want {
			t.Error(c.s, got)
		}
	}
}

// P17.1: a step is each expression that is begun.
func TestSteps(t *testing.T) {
	for s, steps := range map[string]int{
		`1`: 1, `2 + 3`: 3, `{a = 1, b = 2}`: 3, `let x = 1 in x`: 3, `(fn x -> x) 1`: 4, `let rec f x = x in f 1`: 5,
		`match A 1 with | A x -> x | B y -> y end`: 4, `match C 1 with | A x -> x | z -> 1 end`: 4, `{{a = 1} with a = 2}`: 4, `x`: 1,
	} {
		e := read(t, s)
		whole := end(e, steps)
		if strings.Contains(whole, "fuel") || whole != end(e, math.MaxInt) {
			t.Error(s, whole)
		}
		for _, fuel := range []int{steps - 1, 0, -1, math.MinInt} {
			if got := end(e, fuel); got != "fuel" {
				t.Error(s, fuel, got)
			}
		}
	}
}

// P17.1, P1: deep, and for long.
func TestDeep(t *testing.T) {
	for s, want := range map[string]string{
		`let rec f x = f x in f 1`:                                 "fuel",
		`let rec f x = 1 + f x in f 1`:                             "fuel",
		`let rec f n = if n then n + f (n - 1) else 0 in f 100000`: "5000050000",
	} {
		if got := end(read(t, s), 2000000); got != want {
			t.Error(s, got)
		}
	}
}

// P17.3
func TestMoreFuel(t *testing.T) {
	for _, c := range runs {
		e := read(t, c[0])
		var trace []string
		ended := ""
		for fuel := range 120 {
			out := model.Run(e, nil, fuel)
			if len(out.Trace) < len(trace) || !slices.Equal(out.Trace[:len(trace)], trace) {
				t.Fatal(c[0], fuel)
			}
			trace = out.Trace
			got := end(e, fuel)
			if ended != "" && got != ended {
				t.Fatal(c[0], fuel, got)
			}
			if out.Err != api.ErrFuel {
				ended = got
			}
		}
	}
}

// value is a value as chapter 14 tells it, of what has no labels, and is no reference.
func value(v core.Value) string {
	switch v.Kind {
	case core.VInt:
		return fmt.Sprint(v.N)
	case core.VFn:
		return "fn"
	}
	return fmt.Sprint(v.Kind)
}

// P17.3, T3, P15.3: a program that has a type is never stuck, and ends as what it becomes does.
func TestTyped(t *testing.T) {
	ended, other := 0, 0
	for i := range 6000 {
		r := samples.New(i)
		e, _ := r.Program(2 + i%6)
		if i%2 == 1 {
			e = changed(r, e)
		}
		if !syn.May(e) || scope.Check(e) != nil {
			continue
		}
		d, err := infer.Infer(e)
		if err != nil {
			other++
			continue
		}
		input := []string{"a", "", "b"}
		out := model.Run(e, input, 20000)
		if out.Err == api.ErrStuck {
			t.Fatal(i, "stuck")
		}
		c, err := elab.Core(d)
		if err != nil {
			t.Fatal(err)
		}
		v, out2 := core.Run(c, input, 60000)
		if out.Err == api.ErrFuel || out2.Err == api.ErrFuel {
			continue
		}
		ended++
		if out.Err != out2.Err || out.Fault != out2.Fault || !slices.Equal(out.Trace, out2.Trace) {
			t.Fatal(i, out, out2)
		}
		if out.Err == 0 && (v.Kind == core.VInt || v.Kind == core.VFn) && value(v) != out.Value {
			t.Fatal(i, out.Value, value(v))
		}
	}
	if ended < 2000 || other < 300 {
		t.Error(ended, other)
	}
}

// changed puts a part of another program at a place of one.
func changed(r *samples.Source, e expr) expr {
	other, _ := r.Program(2)
	at := &e
	for len(at.L) > 0 && r.Below(4) > 0 {
		at = &at.L[r.Below(len(at.L))]
	}
	*at = other
	return e
}

// P17.2, R2
func TestNothingIsChanged(t *testing.T) {
	e := expr{Kind: api.Record, Labels: []string{"b", "a"}, L: []expr{mk(api.Print, mk(api.Read)), mk(api.Read)}}
	input := []string{"x", "y"}
	out := model.Run(e, input, 100)
	out.Trace[0] = "changed"
	if e.Labels[0] != "b" || !slices.Equal(input, []string{"x", "y"}) || end(e, 100, input...) != `{a = "y", b = {}} x` {
		t.Error(e, input)
	}
}
