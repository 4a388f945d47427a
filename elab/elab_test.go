package elab_test

import (
	"fmt"
	"slices"
	"strings"
	"testing"

	"bushel/api"
	"bushel/core"
	"bushel/elab"
	"bushel/infer"
	"bushel/parse"
	"bushel/samples"
	"bushel/syn"
	"bushel/typ"
)

func typing(t *testing.T, s string) api.Deriv {
	t.Helper()
	e, err := parse.Program([]byte(s))
	if err != nil {
		t.Fatalf("%q: %v", s, err)
	}
	d, err := infer.Infer(e)
	if err != nil {
		t.Fatalf("%q: %v", s, err)
	}
	return d
}

func becomes(t *testing.T, d api.Deriv) api.Core {
	t.Helper()
	e, err := elab.Core(d)
	if err != nil {
		t.Fatal(err)
	}
	return e
}

// kinds are the names of core expressions.
var kinds = strings.Fields("? int text var fn app let rec tuple sel ins del put tag case if op ref get set print show read")

// text tells all of a core expression.
func text(e api.Core) string {
	s := kinds[e.Kind]
	if e.Kind == api.CInt {
		s = fmt.Sprint(e.N)
	} else if e.N != 0 {
		s += "?"
	}
	for _, name := range append([]string{e.S}, append(slices.Clone(e.Names), e.T)...) {
		if name != "" {
			s += " " + name
		}
	}
	for _, part := range e.L {
		s += " " + text(part)
	}
	if strings.Contains(s, " ") {
		return "(" + s + ")"
	}
	return s
}

// P15.1
func TestCore(t *testing.T) {
	for _, c := range [][2]string{
		{`7`, `7`},
		{`"a"`, `(text a)`},
		{`read`, `read`},
		{`fn x -> x`, `(fn v0 (var v0))`},
		{`(fn x -> x) 1`, `(app (fn v0 (var v0)) 1)`},
		{`if 1 then 2 else 3`, `(if 1 2 3)`},
		{`1 + 2`, `(op + 1 2)`},
		{`"a" # 1`, `(op # (text a) 1)`},
		{`ref 1`, `(ref 1)`},
		{`!(ref 1)`, `(get (ref 1))`},
		{`ref 1 := 2`, `(set (ref 1) 2)`},
		{`print (show 1)`, `(print (show 1))`},
		{`let x = 1 in x`, `(let v0 1 (var v0))`},
		{`let rec f x = f x in f`, `(rec v0 v1 (app (var v0) (var v1)) (var v0))`},
		// Labels.
		{`{b = 1, a = 2}`, `(tuple 2 1)`},
		{`{}`, `tuple`},
		{`{a = 1}.a`, `(sel (tuple 1) 0)`},
		{`{a = 1, b = 2, c = 3}.c`, `(sel (tuple 1 2 3) 2)`},
		{`{a = 1, b = 2}\b`, `(del (tuple 1 2) 1)`},
		{`{b = 1 | {a = 2, c = 3}}`, `(ins 1 1 (tuple 2 3))`},
		{`{{a = 1, b = 2} with b = "s"}`, `(put (text s) 1 (tuple 1 2))`},
		{`A 1`, `(tag 1 0)`},
		{`if 1 then A 1 else B 2`, `(if 1 (tag 1 0) (tag 2 1))`},
		{`match B 1 with | A x -> 1 | B y -> y end`, `(case v0 v1 (tag 1 1) 0 1 1 (var v1))`},
		{`match C 1 with | C x -> 1 | A y -> 2 | z -> 3 end`, `(case v0 v1 v2 (tag 1 1) 0 2 1 1 3)`},
		{`match C 1 with | z -> 3 end`, `(case v0 (tag 1 0) 3)`},
		// What is told.
		{`fn r -> r.b`, `(fn v0 (sel (var v0) 0))`},
		{`let f = fn r -> r.b in f {a = 1, b = 2}`, `(let v0 (fn $R0.b (fn v1 (sel (var v1) (var $R0.b)))) (app (app (var v0) 1) (tuple 1 2)))`},
		{`let f = fn r -> r.b + r.c in f {a = 1, b = 2, c = 3}`,
			`(let v0 (fn $R0.b (fn $R0.c (fn v1 (op + (sel (var v1) (var $R0.b)) (sel (var v1) (op + (var $R0.c) 1)))))) (app (app (app (var v0) 1) 1) (tuple 1 2 3)))`},
		{`let f = fn r -> {c = 1 | {r with a = 2}} in f {a = 0}`,
			`(let v0 (fn $R0.a (fn $R0.c (fn v1 (ins 1 (op + (var $R0.c) 1) (put 2 (var $R0.a) (var v1)))))) (app (app (app (var v0) 0) 0) (tuple 0)))`},
		{`let f = fn r -> r.b in let g = fn s -> f {a = 1 | s} in g {b = 2}`,
			`(let v0 (fn $R0.b (fn v1 (sel (var v1) (var $R0.b)))) (let v2 (fn $R1.a (fn $R1.b (fn v3 (app (app (var v0) (op + (var $R1.b) 1)) (ins 1 (var $R1.a) (var v3)))))) (app (app (app (var v2) 0) 0) (tuple 2))))`},
		{`let rec f r = if r.n then f r else r.z in f {n = 0, z = 1}`,
			`(rec v0 $R0.n (fn $R0.z (fn v1 (if (sel (var v1) (var $R0.n)) (app (app (app (var v0) (var $R0.n)) (var $R0.z)) (var v1)) (sel (var v1) (op + (var $R0.z) 1))))) (app (app (app (var v0) 0) 0) (tuple 0 1)))`},
		{`let rec f r = r.n in f {n = 0}`, `(rec v0 $R0.n (fn v1 (sel (var v1) (var $R0.n))) (app (app (var v0) 0) (tuple 0)))`},
		{`let f = fn v -> match v with | B x -> C x | z -> z end in f (B 1)`,
			`(let v0 (fn $R0.B (fn $R0.C (fn v1 (case v2 v3 (var v1) (var $R0.B) (tag (var v2) (var $R0.C)) (var v3))))) (app (app (app (var v0) 0) 0) (tag 1 0)))`},
	} {
		if got := text(becomes(t, typing(t, c[0]))); rows(got) != c[1] {
			t.Errorf("%s: %s, not %s", c[0], rows(got), c[1])
		}
	}
}

// rows puts numbers in the order in which they are met for the row variables' own.
func rows(s string) string {
	var met []string
	parts := strings.Split(s, "$")
	for i, part := range parts[1:] {
		n, rest, _ := strings.Cut(part, ".")
		at := slices.Index(met, n)
		if at < 0 {
			at = len(met)
			met = append(met, n)
		}
		parts[i+1] = fmt.Sprintf("R%d.%s", at, rest)
	}
	return strings.Join(parts, "$")
}

// P15.1: what isn't typed as it must be.
func TestRefuses(t *testing.T) {
	refuse := func(name string, d api.Deriv) {
		t.Helper()
		if e, err := elab.Core(d); err != api.ErrArg || !core.Same(e, api.Core{}) {
			t.Error(name, e, err)
		}
		around := api.Deriv{E: api.Expr{Kind: api.Ref}, L: []api.Deriv{d}}
		if _, err := elab.Core(around); err != api.ErrArg {
			t.Error(name, "as a part", err)
		}
	}
	refuse("nothing", api.Deriv{})
	refuse("no kind", api.Deriv{E: api.Expr{Kind: 23}})
	for _, s := range []string{`fn x -> x`, `(fn x -> x) 1`, `if 1 then 2 else 3`, `1 + 2`, `ref 1`, `!(ref 1)`, `ref 1 := 2`, `print "a"`, `show 1`,
		`let x = 1 in x`, `let rec f x = x in f`, `{a = 1}`, `{a = 1}.a`, `{a = 1}\a`, `{b = 1 | {a = 2}}`, `{{a = 1} with a = 2}`, `A 1`,
		`match A 1 with | A x -> 1 end`, `match A 1 with | A x -> 1 | z -> 2 end`, `match A 1 with | z -> 2 end`} {
		d := typing(t, s)
		less, more := d, d
		less.L = d.L[1:]
		refuse(s+", a part less", less)
		more.L = append(slices.Clone(d.L), typing(t, "1"))
		refuse(s+", a part more", more)
		if d.Row.Kind == 0 {
			continue
		}
		for _, row := range []api.Type{{}, typ.Var(0), typ.Row(d.Row.Kind, []string{"b", "a"}, d.Row.L, -1), typ.Row(9-d.Row.Kind, d.Row.Labels, d.Row.L, -1)} {
			bad := d
			bad.Row = row
			refuse(s+", another Row", bad)
		}
	}
	for _, s := range []string{`1`, `"a"`, `read`, `{}`} {
		d := typing(t, s)
		d.L = []api.Deriv{typing(t, "1")}
		refuse(s+", a part more", d)
	}
	d := typing(t, `match A 1 with | A x -> 1 end`)
	d.E.Names = nil
	refuse("a name less", d)
	d = typing(t, `{a = 1}.a`)
	d.E.S = ""
	refuse("no label", d)
}

// P15.3, T3: what was made with a type is never stuck, and comes to what is expected.
func TestRuns(t *testing.T) {
	for s, want := range map[string]string{
		`let f = fn r -> r.b in f {a = 1, b = 2} + f {b = 40, c = 0}`:                                                          "42",
		`let f = fn x -> fn r -> {b = x | r} in (f 1 {a = 2, c = 3}).b + (f 10 {}).b`:                                          "11",
		`let rec f r = if r.n then f {r with n = r.n - 1} else r.z in f {a = 7, n = 3, z = 5} + f {n = 1, z = 10}`:             "15",
		`let f = fn v -> match v with | B x -> x | z -> match z with | A y -> y + 100 | C y -> y end end in f (A 1) + f (C 5)`: "106",
		`let f = fn r -> r\b in let g = fn r -> (f r).c in g {a = 1, b = 2, c = 3} + g {b = 1, c = 4}`:                         "7",
		`let p = {b = fn r -> r.b, c = fn r -> r.c} in p.b {a = 0, b = 1} + p.c {b = 0, c = 5, d = 0}`:                         "6",
	} {
		v, out := core.Run(becomes(t, typing(t, s)), nil, 10000)
		if out.Err != 0 || fmt.Sprint(v.N) != want {
			t.Error(s, v, out)
		}
	}
	ended := 0
	for i := range 3000 {
		e, _ := samples.New(i).Program(2 + i%6)
		if !syn.May(e) {
			continue
		}
		d, err := infer.Infer(e)
		if err != nil {
			t.Fatal(i, err)
		}
		_, out := core.Run(becomes(t, d), []string{"a", "", "b"}, 20000)
		if out.Err == api.ErrStuck {
			t.Fatal(i, "stuck")
		}
		if out.Err == 0 {
			ended++
		}
	}
	if ended < 1500 {
		t.Error(ended)
	}
}

// P15.2, R2
func TestNothingIsShared(t *testing.T) {
	d := typing(t, `match A 1 with | A x -> {a = x} | z -> {a = 2} end`)
	e := becomes(t, d)
	was := text(e)
	e.Names[0], e.L[2].L[0].S, e.L[0].Kind = "changed", "changed", 99
	if d.E.Names[0] != "v0" || text(becomes(t, d)) != was {
		t.Error(d.E.Names)
	}
}
