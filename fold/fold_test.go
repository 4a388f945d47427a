package fold_test

import (
	"fmt"
	"math"
	"slices"
	"testing"

	"bushel/api"
	"bushel/core"
	"bushel/elab"
	"bushel/fold"
	"bushel/infer"
	"bushel/samples"
	"bushel/syn"
)

type expr = api.Core

func n(i int64) expr                   { return expr{Kind: api.CInt, N: i} }
func s(t string) expr                  { return expr{Kind: api.CText, S: t} }
func v(name string) expr               { return expr{Kind: api.CVar, S: name} }
func mk(kind int, l ...expr) expr      { return expr{Kind: kind, L: l} }
func fn(name string, e expr) expr      { return expr{Kind: api.CFn, S: name, L: []expr{e}} }
func let(name string, a, b expr) expr  { return expr{Kind: api.CLet, S: name, L: []expr{a, b}} }
func rec(f, x string, a, b expr) expr  { return expr{Kind: api.CRec, S: f, T: x, L: []expr{a, b}} }
func op(a expr, o string, b expr) expr { return expr{Kind: api.COp, S: o, L: []expr{a, b}} }
func tuple(l ...expr) expr             { return mk(api.CTuple, l...) }
func app(f, a expr) expr               { return mk(api.CApp, f, a) }

var (
	x, y = v("x"), v("y")
	read = mk(api.CRead)
)

// P16.1
func TestFold(t *testing.T) {
	for i, c := range [][2]expr{
		{let("x", n(2), op(x, "+", n(3))), n(5)},
		// Operators.
		{op(n(2), "-", n(3)), n(-1)},
		{op(n(math.MaxInt64), "*", n(2)), n(-2)},
		{op(n(math.MaxInt64), "+", n(1)), n(math.MinInt64)},
		{op(n(1), "<", n(2)), n(1)},
		{op(n(2), "<", n(2)), n(0)},
		{op(n(2), "==", n(2)), n(1)},
		{op(n(-7), "/", n(2)), n(-3)},
		{op(n(math.MinInt64), "/", n(-1)), n(math.MinInt64)},
		{op(n(7), "/", n(0)), op(n(7), "/", n(0))},
		{op(op(n(1), "+", n(2)), "*", op(n(3), "-", n(4))), n(-3)},
		{op(n(1), "+", x), op(n(1), "+", x)},
		{op(n(1), "^", n(2)), op(n(1), "^", n(2))},
		{op(n(1), "#", n(2)), op(n(1), "#", n(2))},
		{op(n(1), "?", n(2)), op(n(1), "?", n(2))},
		{op(s("a"), "^", s("b")), op(s("a"), "^", s("b"))},
		// If.
		{mk(api.CIf, n(3), x, read), x},
		{mk(api.CIf, op(n(1), "-", n(1)), x, read), read},
		{mk(api.CIf, x, n(1), op(n(1), "+", n(1))), mk(api.CIf, x, n(1), n(2))},
		// Sel.
		{mk(api.CSel, tuple(n(1), s("a"), x, fn("q", x)), n(2)), x},
		{mk(api.CSel, tuple(n(1), s("a"), x, fn("q", x)), n(3)), fn("q", x)},
		{mk(api.CSel, tuple(n(1), op(n(1), "+", n(1))), op(n(1), "*", n(1))), n(2)},
		{mk(api.CSel, tuple(n(1), read), n(0)), mk(api.CSel, tuple(n(1), read), n(0))},
		{mk(api.CSel, tuple(n(1)), n(1)), mk(api.CSel, tuple(n(1)), n(1))},
		{mk(api.CSel, tuple(n(1)), n(-1)), mk(api.CSel, tuple(n(1)), n(-1))},
		{mk(api.CSel, tuple(n(1)), x), mk(api.CSel, tuple(n(1)), x)},
		{mk(api.CSel, tuple(tuple()), n(0)), mk(api.CSel, tuple(tuple()), n(0))},
		{mk(api.CSel, x, n(0)), mk(api.CSel, x, n(0))},
		// Let.
		{let("x", n(1), y), y},
		{let("x", s("a"), y), y},
		{let("x", y, n(1)), n(1)},
		{let("x", fn("q", read), n(1)), n(1)},
		{let("x", read, n(1)), let("x", read, n(1))},
		{let("x", tuple(), n(1)), let("x", tuple(), n(1))},
		{let("x", s("a"), x), let("x", s("a"), x)},
		{let("x", y, x), let("x", y, x)},
		{let("x", fn("q", read), x), let("x", fn("q", read), x)},
		{let("x", x, let("x", n(1), x)), n(1)},
		{let("x", n(1), tuple(x, fn("x", x), let("x", x, x), let("x", read, x))), tuple(n(1), fn("x", x), n(1), let("x", read, x))},
		{let("x", n(1), rec("x", "y", x, x)), rec("x", "y", x, x)},
		{let("y", n(1), rec("x", "y", y, y)), rec("x", "y", y, n(1))},
		{let("x", n(1), expr{Kind: api.CCase, Names: []string{"x", "y"}, T: "x", L: []expr{x, x, x, x, x, x}}),
			expr{Kind: api.CCase, Names: []string{"x", "y"}, T: "x", L: []expr{n(1), n(1), x, n(1), n(1), x}}},
		{let("x", n(1), let("y", op(x, "+", n(1)), op(x, "+", y))), n(3)},
		{let("x", n(1), let("y", mk(api.CIf, x, s("a"), read), read)), read},
		// App.
		{app(fn("x", op(x, "+", n(1))), n(2)), n(3)},
		{app(fn("x", n(1)), s("a")), n(1)},
		{app(fn("x", x), s("a")), let("x", s("a"), x)},
		{app(fn("x", x), y), app(fn("x", x), y)},
		{app(app(fn("x", fn("y", op(x, "-", y))), n(5)), n(3)), n(2)},
		{app(mk(api.CIf, n(1), fn("x", op(x, "+", n(1))), read), n(2)), n(3)},
		{app(x, n(2)), app(x, n(2))},
		{let("x", n(4), app(fn("y", app(fn("x", op(x, "+", y)), n(1))), x)), n(5)},
		// Another number of parts.
		{mk(api.COp, n(1), n(2), n(3)), mk(api.COp, n(1), n(2), n(3))},
		{mk(api.CIf, n(1), n(2)), mk(api.CIf, n(1), n(2))},
		{expr{Kind: api.CLet, S: "x", L: []expr{n(1), n(2), n(3)}}, expr{Kind: api.CLet, S: "x", L: []expr{n(1), n(2), n(3)}}},
		{let("x", mk(api.CInt, n(1)), n(2)), let("x", mk(api.CInt, n(1)), n(2))},
		{let("x", mk(api.CFn), n(2)), let("x", mk(api.CFn), n(2))},
		{app(expr{Kind: api.CFn, S: "x", L: []expr{n(1), n(2)}}, n(1)), app(expr{Kind: api.CFn, S: "x", L: []expr{n(1), n(2)}}, n(1))},
		{app(fn("x", n(1)), mk(api.CText, n(1))), app(fn("x", n(1)), mk(api.CText, n(1)))},
		{mk(api.CSel, tuple(mk(api.CInt, n(1))), n(0)), mk(api.CSel, tuple(mk(api.CInt, n(1))), n(0))},
		{mk(99, op(n(1), "+", n(1))), mk(99, n(2))},
		{expr{}, expr{}},
		// All else stays, fields and all.
		{expr{Kind: api.CApp, N: 3, S: "a", T: "b", Names: []string{"c"}, L: []expr{x, op(n(1), "+", n(1))}}, expr{Kind: api.CApp, N: 3, S: "a", T: "b", Names: []string{"c"}, L: []expr{x, n(2)}}},
		{expr{Kind: api.CLet, N: 3, S: "a", T: "b", L: []expr{read, x}}, expr{Kind: api.CLet, N: 3, S: "a", T: "b", L: []expr{read, x}}},
	} {
		if got := fold.Fold(c[0]); !core.Same(got, c[1]) {
			t.Errorf("%d: %v, not %v", i, got, c[1])
		}
	}
}

func is(e expr, kind, parts int) bool { return e.Kind == kind && len(e.L) == parts }

func simple(e expr) bool {
	return is(e, api.CInt, 0) || is(e, api.CText, 0) || is(e, api.CVar, 0) || is(e, api.CFn, 1)
}

// bound tells whether a part is one where a name is bound: a variable of that name is free alone, but not beside the part's number.
func bound(e expr, i int, name string) bool {
	probe := e
	probe.L = make([]expr, len(e.L))
	probe.L[i] = v(name)
	probe.Kind = e.Kind
	if e.Kind == api.CVar {
		return false
	}
	return !slices.Contains(core.Free(probe), name)
}

// put puts an integer in for a name, where that is free.
func put(e expr, name string, to expr) expr {
	told := e
	told.L = nil
	if e.Kind == api.CVar && e.S == name {
		told = to
		told.L = nil
	}
	for i, part := range e.L {
		if !bound(e, i, name) {
			part = put(part, name, to)
		}
		told.L = append(told.L, part)
	}
	return told
}

// slow folds as the document tells it, word by word.
func slow(e expr) expr {
	told := e
	told.L = nil
	for _, part := range e.L {
		told.L = append(told.L, slow(part))
	}
	return look(told)
}

func look(e expr) expr {
	l := e.L
	switch {
	case is(e, api.COp, 2) && is(l[0], api.CInt, 0) && is(l[1], api.CInt, 0):
		if _, out := core.Run(e, nil, 3); out.Err == 0 {
			val, _ := core.Run(e, nil, 3)
			return n(val.N)
		}
	case is(e, api.CIf, 3) && is(l[0], api.CInt, 0):
		if l[0].N != 0 {
			return l[1]
		}
		return l[2]
	case is(e, api.CSel, 2) && l[0].Kind == api.CTuple && is(l[1], api.CInt, 0):
		if !slices.ContainsFunc(l[0].L, func(p expr) bool { return !simple(p) }) && l[1].N >= 0 && l[1].N < int64(len(l[0].L)) {
			return l[0].L[l[1].N]
		}
	case is(e, api.CLet, 2):
		if simple(l[0]) && !slices.Contains(core.Free(l[1]), e.S) {
			return l[1]
		}
		if is(l[0], api.CInt, 0) {
			return slow(put(l[1], e.S, l[0]))
		}
	case is(e, api.CApp, 2) && is(l[0], api.CFn, 1) && (is(l[1], api.CInt, 0) || is(l[1], api.CText, 0)):
		return look(let(l[0].S, l[1], l[0].L[0]))
	}
	return e
}

// P16.1: random expressions, some with another number of parts than they are to have.
func TestAgainstWords(t *testing.T) {
	shorter := 0
	for i := range 30000 {
		e := samples.New(i).Core(2+i%7, i%3 == 0)
		got, want := fold.Fold(e), slow(e)
		if !core.Same(got, want) {
			t.Fatalf("%d: %v becomes %v, not %v", i, e, got, want)
		}
		if core.Nodes(got) < core.Nodes(e) {
			shorter++
		}
	}
	if shorter < 3000 {
		t.Error(shorter)
	}
}

// end tells all of how a run ends.
func end(e expr, fuel int) string {
	val, out := core.Run(e, []string{"a", "b", ""}, fuel)
	return fmt.Sprint(val, out)
}

// steps is how many an expression takes, if it ends soon.
func steps(e expr) (int, bool) {
	for fuel := range 400 {
		if _, out := core.Run(e, []string{"a", "b", ""}, fuel); out.Err != api.ErrFuel {
			return fuel, true
		}
	}
	return 0, false
}

// P16.3
func TestSameEnd(t *testing.T) {
	ended := 0
	for i := range 20000 {
		e := samples.New(i).Core(2+i%6, i%3 == 0)
		for _, name := range core.Free(e) {
			e = let(name, samples.Pick(samples.New(i), tuple(n(1), n(2)), n(1), fn("q", v("q")), mk(api.CRef, n(1))), e)
		}
		got := fold.Fold(e)
		if l := core.Free(got); len(l) > 0 {
			t.Fatal(i, l)
		}
		if fuel, is := steps(e); is {
			ended++
			if end(e, fuel) != end(got, fuel) {
				t.Fatalf("%d: %v %v, not %v", i, e, end(got, fuel), end(e, fuel))
			}
		}
	}
	if ended < 10000 {
		t.Error(ended)
	}
}

// P16.3: no name is free that wasn't.
func TestFree(t *testing.T) {
	for i := range 20000 {
		e := samples.New(i).Core(2+i%6, i%3 == 0)
		was := core.Free(e)
		for _, name := range core.Free(fold.Fold(e)) {
			if !slices.Contains(was, name) {
				t.Fatal(i, e, name)
			}
		}
	}
}

// P16.3: programs.
func TestPrograms(t *testing.T) {
	for i := range 1500 {
		e, _ := samples.New(i).Program(2 + i%5)
		if !syn.May(e) {
			continue
		}
		d, err := infer.Infer(e)
		if err != nil {
			t.Fatal(err)
		}
		c, err := elab.Core(d)
		if err != nil {
			t.Fatal(err)
		}
		if _, out := core.Run(c, []string{"a", "b", ""}, 5000); out.Err != api.ErrFuel && end(c, 5000) != end(fold.Fold(c), 5000) {
			t.Fatal(i)
		}
	}
}

// P1: deep ones.
func TestDeep(t *testing.T) {
	e := v("x20000")
	for i := 20000; i > 0; i-- {
		e = let(fmt.Sprint("x", i), op(v(fmt.Sprint("x", i-1)), "+", n(1)), e)
	}
	if got := fold.Fold(let("x0", n(0), e)); !core.Same(got, n(20000)) {
		t.Error(got.Kind, got.N)
	}
	if got := fold.Fold(let("x0", read, e)); core.Nodes(got) != core.Nodes(e)+2 {
		t.Error(core.Nodes(got))
	}
}

// P16.2, R2
func TestNothingIsShared(t *testing.T) {
	e := expr{Kind: api.CCase, Names: []string{"x"}, L: []expr{tuple(n(1)), tuple(n(2)), fn("y", tuple(n(3)))}}
	got := fold.Fold(let("z", s("a"), tuple(e, let("q", n(7), tuple(v("q"), v("q"))))))
	got.L[0].Names[0], got.L[0].L[2].L[0].L[0].N, got.L[0].L[0].L[0].N = "changed", 9, 9
	if e.Names[0] != "x" || e.L[2].L[0].L[0].N != 3 || e.L[0].L[0].N != 1 {
		t.Error(e)
	}
}
