package gen_test

import (
	"fmt"
	"slices"
	"strings"
	"testing"

	"bushel/api"
	"bushel/close"
	"bushel/code"
	"bushel/core"
	"bushel/elab"
	"bushel/fold"
	"bushel/gen"
	"bushel/infer"
	"bushel/samples"
	"bushel/syn"
)

type expr = api.Core

func n(i int64) expr                   { return expr{Kind: api.CInt, N: i} }
func s(t string) expr                  { return expr{Kind: api.CText, S: t} }
func v(name string) expr               { return expr{Kind: api.CVar, S: name} }
func mk(kind int, l ...expr) expr      { return expr{Kind: kind, L: l} }
func fn(name string, e expr) expr      { return expr{Kind: api.CFn, S: name, L: []expr{e}} }
func let(name string, a, b expr) expr  { return expr{Kind: api.CLet, S: name, L: []expr{a, b}} }
func rec(f, x string, a, b expr) expr  { return expr{Kind: api.CRec, S: f, T: x, L: []expr{a, b}} }
func op(a expr, o string, b expr) expr { return expr{Kind: api.COp, S: o, L: []expr{a, b}} }
func app(f, a expr) expr               { return mk(api.CApp, f, a) }
func cases(names, rest string, l ...expr) expr {
	return expr{Kind: api.CCase, Names: strings.Fields(names), T: rest, L: l}
}

// say prints a text, and comes to what is told then.
func say(t string, e expr) expr { return let("_", mk(api.CPrint, s(t)), e) }

func image(t *testing.T, e expr) api.Image {
	t.Helper()
	m, err := gen.Image(e)
	if err != nil || code.Check(m) != nil {
		t.Fatal(err)
	}
	return m
}

var input = []string{"a", "", "b"}

// compare runs an expression, and its code, and tells whether the expression ended.
func compare(t *testing.T, e expr, steps int) bool {
	t.Helper()
	m := image(t, e)
	funs, _ := close.Close(e)
	if len(m.Funs) != len(funs) {
		t.Fatal(len(m.Funs), len(funs))
	}
	for i, f := range funs {
		if m.Funs[i].Caps != len(f.Caps) {
			t.Fatal(i, m.Funs[i].Caps, f.Caps)
		}
	}
	v, out := core.Run(e, input, steps)
	if out.Err == api.ErrFuel {
		return false
	}
	v2, out2, used := run(m, input, 50*steps)
	if out.Err == api.ErrStuck {
		out.Err = api.ErrCode
	}
	if fmt.Sprint(v, out) != fmt.Sprint(v2, out2) || used > 50*steps {
		t.Fatalf("%v: %v %v, not %v %v, by %d", e, v2, out2, v, out, used)
	}
	return true
}

// P20.1
func TestImage(t *testing.T) {
	three := mk(api.CTuple, n(10), n(11), n(12))
	tag := func(e, at expr) expr { return mk(api.CTag, e, at) }
	read := mk(api.CRead)
	for i, e := range []expr{
		op(n(2), "+", n(3)), n(-5), s("a\xff"), mk(api.CTuple), three, fn("x", v("x")),
		mk(api.CSel, three, n(2)), mk(api.CSel, three, n(3)), mk(api.CIns, n(5), n(3), three), mk(api.CIns, n(5), n(4), three), mk(api.CDel, three, n(0)), mk(api.CPut, n(5), n(1), three), mk(api.CPut, n(5), n(-1), three),
		mk(api.CIf, n(0), say("no", n(1)), say("yes", n(2))), mk(api.CIf, n(7), n(1), n(2)), mk(api.CIf, s("a"), say("no", n(1)), n(2)),
		let("x", n(1), let("x", op(v("x"), "+", v("x")), op(v("x"), "*", v("x")))),
		app(fn("x", op(v("x"), "-", n(1))), n(5)), app(n(1), say("a", n(2))),
		rec("f", "x", mk(api.CIf, v("x"), op(v("x"), "+", app(v("f"), op(v("x"), "-", n(1)))), n(0)), app(v("f"), n(10))),
		rec("f", "f", v("f"), app(v("f"), n(4))),
		let("a", n(1), let("b", n(2), rec("f", "x", fn("y", mk(api.CTuple, v("a"), v("x"), v("b"), v("y"), v("f"))), app(app(v("f"), n(3)), n(4))))),
		let("a", n(1), fn("x", fn("y", fn("z", v("a"))))),
		let("a", n(1), app(app(app(fn("x", fn("y", fn("z", mk(api.CTuple, v("a"), v("x"), v("y"), v("z"))))), n(2)), n(3)), n(4))),
		cases("x y", "", tag(n(7), n(2)), n(1), s("no"), n(2), v("y")), cases("x y", "", tag(n(7), n(3)), say("a", n(1)), s("no"), say("b", n(2)), s("no")),
		cases("x y", "z", tag(n(7), n(5)), n(1), v("x"), n(3), v("y"), v("z")), cases("", "z", tag(n(7), n(-5)), v("z")), cases("", "z", n(7), v("z")),
		cases("x", "", n(7), say("no", n(1)), n(1)), cases("x y", "", tag(n(7), n(2)), s("b"), n(1), say("no", n(2)), n(1)),
		cases("x", "z", tag(mk(api.CTuple, n(1)), n(1)), n(1), cases("x", "", tag(v("x"), n(0)), n(0), v("x")), v("z")),
		let("t", tag(n(1), n(9)), cases("x", "t", v("t"), n(1), v("t"), mk(api.CTuple, v("t"), v("t")))),
		mk(api.CTuple, read, read, read), mk(api.CTuple, read, read, read, read), op(s("ab"), "#", n(1)), op(s("ab"), "#", n(2)), op(s("a"), "^", mk(api.CShow, n(-3))), op(n(1), "/", n(0)), op(s("a"), "+", n(0)),
		let("r", mk(api.CRef, n(1)), let("_", mk(api.CSet, v("r"), mk(api.CTuple, v("r"))), mk(api.CGet, v("r")))), mk(api.CGet, n(1)), mk(api.CSet, n(1), say("a", n(2))),
		mk(api.CPrint, n(1)), mk(api.CShow, s("a")), mk(api.CTuple, say("a", n(1)), say("b", n(2))),
	} {
		if !compare(t, e, 400) {
			t.Error(i, "out of fuel")
		}
	}
}

// P20.1
func TestRefuses(t *testing.T) {
	long := strings.Repeat("x", api.MaxText)
	many := n(0)
	for range api.MaxFuns {
		many = fn("x", many)
	}
	wide := mk(api.CTuple, slices.Repeat([]expr{n(1)}, api.MaxRegs)...)
	longCode := mk(api.CTuple)
	for range 25 {
		part := n(1)
		for range 1000 {
			part = op(part, "+", n(1))
		}
		longCode.L = append(longCode.L, part)
	}
	for i, c := range []struct {
		e   expr
		err error
	}{
		{v("x"), api.ErrScope},
		{mk(api.CTuple, v("x"), mk(99)), api.ErrScope},
		{rec("", "x", n(1), n(2)), api.ErrScope},
		{many, api.ErrLimit},
		{mk(api.CTuple, many, mk(99)), api.ErrLimit},
		{expr{}, api.ErrCode},
		{mk(23), api.ErrCode},
		{fn("x", mk(api.CPrint)), api.ErrCode},
		{mk(api.CInt, n(1)), api.ErrCode},
		{expr{Kind: api.CFn, S: "x"}, api.ErrCode},
		{expr{Kind: api.CFn, S: "x", L: []expr{n(1), n(2)}}, api.ErrCode},
		{expr{Kind: api.CRec, S: "x"}, api.ErrCode},
		{cases("x", "", n(1), n(1)), api.ErrCode},
		{cases("x", "z", n(1), n(1), n(2)), api.ErrCode},
		{cases("", "", n(1)), nil},
		{op(n(1), "%", n(2)), api.ErrCode},
		{op(n(1), "", n(2)), api.ErrCode},
		{s(long), nil},
		{s(long + "x"), api.ErrCode},
		{mk(api.CTuple, wide, s(long+"x")), api.ErrCode},
		{wide, api.ErrLimit},
		{longCode, api.ErrLimit},
		// Of these errors the first one counts, however long the code would be.
		{mk(api.CTuple, longCode, v("x"), mk(99)), api.ErrScope},
		{mk(api.CTuple, longCode, mk(99), rec("", "x", n(1), n(2))), api.ErrScope},
		{mk(api.CTuple, longCode, mk(99), many), api.ErrLimit},
		{mk(api.CTuple, longCode, mk(99), rec("f", "x", n(1), fn("x", n(2)))), api.ErrCode},
		{mk(api.CTuple, longCode, op(n(1), "?", n(1))), api.ErrCode},
		{mk(api.CTuple, longCode, rec("f", "x", n(1), fn("x", n(2)))), api.ErrLimit},
	} {
		m, err := gen.Image(c.e)
		if err != c.err || err != nil && !code.Same(m, api.Image{}) {
			t.Error(i, err)
		}
		if c.err == nil {
			compare(t, c.e, 100)
		}
	}
}

// P20.1: never of at most 1000 nodes.
func TestThousandNodes(t *testing.T) {
	nest := func(leaf expr, most int, step func(e expr) expr) expr {
		for core.Nodes(step(leaf)) <= most {
			leaf = step(leaf)
		}
		return leaf
	}
	i := 0
	name := func() string { i++; return fmt.Sprint("x", i) }
	all := mk(api.CTuple)
	for j := range 330 {
		all.L = append(all.L, v(fmt.Sprint("y", j)))
	}
	caught := fn("q", all)
	for j := range 330 {
		caught = let(fmt.Sprint("y", j), n(int64(j)), caught)
	}
	for j, e := range []expr{
		nest(n(1), 1000, func(e expr) expr { return op(n(1), "+", e) }),
		nest(n(1), 1000, func(e expr) expr { return op(e, "+", n(1)) }),
		nest(n(1), 1000, func(e expr) expr { return fn(name(), e) }),
		nest(n(1), 1000, func(e expr) expr { return let(name(), n(1), e) }),
		nest(n(1), 1000, func(e expr) expr { return rec(name(), name(), n(1), e) }),
		nest(n(1), 1000, func(e expr) expr { return rec(name(), name(), e, n(1)) }),
		nest(n(1), 1000, func(e expr) expr { return cases("", name(), e, n(1)) }),
		nest(n(1), 1000, func(e expr) expr { return cases("", name(), mk(api.CTag, n(1), n(1)), e) }),
		nest(n(1), 1000, func(e expr) expr { return cases("a", name(), mk(api.CTag, n(1), n(1)), e, n(1), n(2)) }),
		nest(n(1), 1000, func(e expr) expr { return cases("a", name(), mk(api.CTag, n(1), n(1)), n(1), e, n(2)) }),
		nest(n(1), 1000, func(e expr) expr { return mk(api.CIf, e, n(1), n(2)) }),
		mk(api.CTuple, slices.Repeat([]expr{n(1)}, 999)...),
		expr{Kind: api.CCase, Names: slices.Repeat([]string{"x"}, 499), L: slices.Repeat([]expr{mk(api.CTuple)}, 999)},
		caught,
	} {
		if core.Nodes(e) > 1000 || core.Nodes(e) < 990 {
			t.Error(j, core.Nodes(e))
		}
		compare(t, e, 3000)
	}
}

// P20.1, P20.3
func TestRandom(t *testing.T) {
	ended, stuck := 0, 0
	for i := range 20000 {
		e := samples.New(i).Core(2+i%7, false)
		for _, name := range core.Free(e) {
			e = let(name, samples.Pick(samples.New(i), mk(api.CTuple, n(1), n(2)), n(1), fn("q", v("q")), mk(api.CTag, n(1), n(2))), e)
		}
		if compare(t, e, 400) {
			ended++
		}
		if _, out := core.Run(e, input, 400); out.Err == api.ErrStuck {
			stuck++
		}
	}
	if ended < 15000 || stuck < 3000 || stuck > 18000 {
		t.Error(ended, stuck)
	}
}

// P20.1, T3: programs.
func TestPrograms(t *testing.T) {
	ended := 0
	for i := range 3000 {
		e, _ := samples.New(i).Program(2 + i%6)
		if !syn.May(e) {
			continue
		}
		d, err := infer.Infer(e)
		if err != nil {
			t.Fatal(err)
		}
		c, err := elab.Core(d)
		if err != nil {
			t.Fatal(err)
		}
		if i%2 == 0 {
			c = fold.Fold(c)
		}
		if compare(t, c, 2000) {
			ended++
		}
	}
	if ended < 1500 {
		t.Error(ended)
	}
}

// P20.2, R2
func TestNothingIsShared(t *testing.T) {
	e := let("x", n(1), fn("y", mk(api.CTuple, v("x"), s("a"))))
	was := let("x", n(1), fn("y", mk(api.CTuple, v("x"), s("a"))))
	m := image(t, e)
	first := image(t, e)
	m.Ints[0], m.Texts[0], m.Funs[0].Code[0].L[0], m.Funs[0].Code[0].Op = 9, "changed", 99, 99
	if !core.Same(e, was) || !code.Same(image(t, e), first) {
		t.Error(e)
	}
}
