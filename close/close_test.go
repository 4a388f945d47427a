package close_test

import (
	"fmt"
	"slices"
	"strings"
	"testing"

	"bushel/api"
	"bushel/close"
	"bushel/core"
	"bushel/samples"
)

type expr = api.Core

func n(i int64) expr                  { return expr{Kind: api.CInt, N: i} }
func v(name string) expr              { return expr{Kind: api.CVar, S: name} }
func mk(kind int, l ...expr) expr     { return expr{Kind: kind, L: l} }
func fn(name string, e expr) expr     { return expr{Kind: api.CFn, S: name, L: []expr{e}} }
func let(name string, a, b expr) expr { return expr{Kind: api.CLet, S: name, L: []expr{a, b}} }
func rec(f, x string, a, b expr) expr { return expr{Kind: api.CRec, S: f, T: x, L: []expr{a, b}} }
func tuple(l ...expr) expr            { return mk(api.CTuple, l...) }

// num is an expression with a number.
func num(e expr, i int64) expr {
	e.N = i
	return e
}

func same(a, b api.Fun) bool {
	return a.S == b.S && a.T == b.T && slices.Equal(a.Caps, b.Caps) && core.Same(a.Part, b.Part)
}

// P18.1
func TestClose(t *testing.T) {
	ab := num(fn("a", num(fn("b", v("a")), 2)), 1)
	f := num(rec("f", "x", mk(api.CApp, v("f"), tuple(v("x"), v("y"), v("z"))), num(fn("q", v("f")), 3)), 2)
	for i, c := range []struct {
		e    expr
		want []api.Fun
	}{
		{n(5), []api.Fun{{Part: n(5)}}},
		{fn("a", fn("b", v("a"))), []api.Fun{{Part: ab}, {T: "a", Part: num(fn("b", v("a")), 2)}, {T: "b", Caps: []string{"a"}, Part: v("a")}}},
		{tuple(fn("a", n(7)), fn("b", v("b"))), []api.Fun{{Part: tuple(num(fn("a", n(7)), 1), num(fn("b", v("b")), 2))}, {T: "a", Part: n(7)}, {T: "b", Part: v("b")}}},
		{let("z", n(1), fn("y", rec("f", "x", mk(api.CApp, v("f"), tuple(v("x"), v("y"), v("z"))), fn("q", v("f"))))), []api.Fun{
			{Part: let("z", n(1), num(fn("y", f), 1))},
			{T: "y", Caps: []string{"z"}, Part: f},
			{S: "f", T: "x", Caps: []string{"y", "z"}, Part: mk(api.CApp, v("f"), tuple(v("x"), v("y"), v("z")))},
			{T: "q", Caps: []string{"f"}, Part: v("f")},
		}},
		// Of a Rec the part alone counts, and where both names are one.
		{let("y", n(1), rec("f", "f", v("f"), v("y"))), []api.Fun{{Part: let("y", n(1), num(rec("f", "f", v("f"), v("y")), 1))}, {S: "f", T: "f", Part: v("f")}}},
		// A Rec's own part is met ahead of what stands behind it.
		{rec("f", "x", fn("p", n(1)), fn("q", n(2))), []api.Fun{
			{Part: num(rec("f", "x", num(fn("p", n(1)), 2), num(fn("q", n(2)), 3)), 1)},
			{S: "f", T: "x", Part: num(fn("p", n(1)), 2)}, {T: "p", Part: n(1)}, {T: "q", Part: n(2)},
		}},
		// No other N is changed.
		{expr{Kind: api.CTuple, N: 9, L: []expr{num(fn("a", num(v("a"), 8)), 7)}}, []api.Fun{
			{Part: expr{Kind: api.CTuple, N: 9, L: []expr{num(fn("a", num(v("a"), 8)), 1)}}}, {T: "a", Part: num(v("a"), 8)},
		}},
		// Another number of parts.
		{expr{Kind: api.CFn, S: "a"}, []api.Fun{{Part: num(expr{Kind: api.CFn, S: "a"}, 1)}, {T: "a"}}},
		{expr{Kind: api.CRec, S: "a"}, []api.Fun{{Part: num(expr{Kind: api.CRec, S: "a"}, 1)}, {S: "a"}}},
		{expr{Kind: api.CFn, L: []expr{v(""), fn("b", n(1))}}, []api.Fun{
			{Part: expr{Kind: api.CFn, N: 1, L: []expr{v(""), num(fn("b", n(1)), 2)}}}, {Part: v("")}, {T: "b", Part: n(1)},
		}},
		{expr{}, []api.Fun{{}}},
	} {
		got, err := close.Close(c.e)
		if err != nil || len(got) != len(c.want) {
			t.Error(i, len(got), err)
			continue
		}
		for j := range got {
			if !same(got[j], c.want[j]) {
				t.Errorf("%d, number %d: %+v, not %+v", i, j, got[j], c.want[j])
			}
		}
	}
}

// many has so many functions.
func many(functions int) expr {
	e := n(0)
	for i := range functions {
		if i%2 == 0 {
			e = fn("x", e)
		} else {
			e = tuple(fn("y", n(1)), e)
		}
	}
	return e
}

// P18.1
func TestRefuses(t *testing.T) {
	for i, c := range []struct {
		e   expr
		err error
	}{
		{v("x"), api.ErrScope},
		{fn("a", v("b")), api.ErrScope},
		{rec("f", "x", n(1), v("x")), api.ErrScope},
		{rec("", "x", n(1), n(2)), api.ErrScope},
		{tuple(n(1), fn("x", rec("", "x", n(1), n(2)))), api.ErrScope},
		{mk(99, rec("", "x", n(1), n(2))), api.ErrScope},
		{many(api.MaxFuns), api.ErrLimit},
		{tuple(many(api.MaxFuns), v("x")), api.ErrScope},
		{tuple(many(api.MaxFuns), rec("", "", n(1), n(1))), api.ErrScope},
		{many(api.MaxFuns - 1), nil},
	} {
		got, err := close.Close(c.e)
		if err != c.err || err != nil && got != nil || err == nil && len(got) != api.MaxFuns {
			t.Error(i, len(got), err)
		}
	}
}

// P18.3
func TestFreeInParts(t *testing.T) {
	for i := range 10000 {
		e := samples.New(i).Core(2+i%7, false)
		for _, name := range core.Free(e) {
			e = let(name, n(1), e)
		}
		funs, err := close.Close(e)
		if err != nil {
			t.Fatal(i, err)
		}
		for j, f := range funs {
			free := core.Free(f.Part)
			for _, name := range f.Caps {
				if !slices.Contains(free, name) || name == f.T || f.S != "" && name == f.S {
					t.Fatal(i, j, name)
				}
			}
			for _, name := range free {
				if j == 0 || !slices.Contains(f.Caps, name) && name != f.T && name != f.S {
					t.Fatal(i, j, name)
				}
			}
			if !slices.IsSorted(f.Caps) {
				t.Fatal(i, j, f.Caps)
			}
		}
		if whole := fmt.Sprint(numbers(funs[0].Part)); whole != fmt.Sprint(upTo(len(funs))) {
			t.Fatal(i, whole)
		}
	}
}

// numbers lists those of functions, as they are met.
func numbers(e expr) []int64 {
	l := []int64{}
	if e.Kind == api.CFn || e.Kind == api.CRec {
		l = append(l, e.N)
	}
	for _, part := range e.L {
		l = append(l, numbers(part)...)
	}
	return l
}

func upTo(n int) []int64 {
	l := []int64{}
	for i := 1; i < n; i++ {
		l = append(l, int64(i))
	}
	return l
}

// P18.2, R2
func TestNothingIsShared(t *testing.T) {
	e := fn("a", fn("b", expr{Kind: api.CCase, Names: []string{"x"}, L: []expr{v("a"), n(1), v("x")}}))
	was := fmt.Sprint(e)
	funs, _ := close.Close(e)
	before := fmt.Sprint(funs[2])
	funs[0].Part.L[0].L[0].Names[0] = "changed"
	funs[1].Part.L[0].L[0].S = "changed"
	if fmt.Sprint(funs[2]) != before || fmt.Sprint(e) != was || strings.Contains(fmt.Sprint(funs[2]), "changed") {
		t.Error(funs[2], e)
	}
	funs[2].Caps[0] = "changed"
	if again, _ := close.Close(e); again[2].Caps[0] != "a" {
		t.Error(again)
	}
}
