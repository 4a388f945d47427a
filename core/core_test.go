package core_test

import (
	"fmt"
	"math"
	"slices"
	"strings"
	"testing"

	"bushel/api"
	"bushel/core"
)

type expr = api.Core

func n(i int64) expr                   { return expr{Kind: api.CInt, N: i} }
func s(t string) expr                  { return expr{Kind: api.CText, S: t} }
func v(name string) expr               { return expr{Kind: api.CVar, S: name} }
func mk(kind int, l ...expr) expr      { return expr{Kind: kind, L: l} }
func fn(name string, e expr) expr      { return expr{Kind: api.CFn, S: name, L: []expr{e}} }
func let(name string, a, b expr) expr  { return expr{Kind: api.CLet, S: name, L: []expr{a, b}} }
func rec(f, x string, a, b expr) expr  { return expr{Kind: api.CRec, S: f, T: x, L: []expr{a, b}} }
func op(a expr, o string, b expr) expr { return expr{Kind: api.COp, S: o, L: []expr{a, b}} }
func tuple(l ...expr) expr             { return mk(api.CTuple, l...) }
func tag(e, at expr) expr              { return mk(api.CTag, e, at) }
func app(f, a expr) expr               { return mk(api.CApp, f, a) }
func when(a, b, c expr) expr           { return mk(api.CIf, a, b, c) }
func cases(names, rest string, l ...expr) expr {
	return expr{Kind: api.CCase, Names: strings.Fields(names), T: rest, L: l}
}

// say prints a text, and comes to what is told then.
func say(t string, e expr) expr { return let("_", mk(api.CPrint, s(t)), e) }

// text tells a value.
func text(v core.Value) string {
	var l []string
	for _, part := range v.L {
		l = append(l, text(part))
	}
	list := strings.Join(l, " ")
	switch v.Kind {
	case core.VInt:
		return fmt.Sprint(v.N) + v.S + list
	case core.VText:
		return fmt.Sprintf("%q", v.S) + strings.Repeat("?", int(v.N)) + list
	case core.VFn:
		return "fn" + strings.Repeat("?", int(v.N)) + v.S + list
	case core.VTuple:
		return "(" + list + ")" + strings.Repeat("?", int(v.N)) + v.S
	case core.VTag:
		return fmt.Sprint("#", v.N, v.S, " ", list)
	case core.VRef:
		return fmt.Sprint("ref", v.N, v.S, list)
	}
	return fmt.Sprint("none", v.Kind, v.N, v.S, list)
}

// end tells all of how a run ends.
func end(e expr, fuel int, input ...string) string {
	val, out := core.Run(e, input, fuel)
	told := "none0 0"
	switch out.Err {
	case 0:
		told = text(val)
	case api.ErrFault:
		told = fmt.Sprint("fault ", out.Fault)
	case api.ErrStuck:
		told = "stuck"
	case api.ErrFuel:
		told = "fuel"
	}
	if out.Value != "" || out.Err != 0 && val.Kind+len(val.L)+len(val.S)+int(val.N) != 0 || out.Err != api.ErrFault && out.Fault != 0 {
		return "what isn't asked for"
	}
	return strings.TrimSpace(told + " " + strings.Join(out.Trace, ","))
}

var (
	unit  = tuple()
	three = tuple(n(10), n(11), n(12))
	long  = strings.Repeat("x", api.MaxText)
)

// runs are expressions, and how they end.
var runs = []struct {
	e    expr
	want string
}{
	{n(math.MinInt64), "-9223372036854775808"},
	{s("a\n"), `"a\n"`},
	{fn("x", v("y")), "fn"},
	{unit, "()"},
	{tuple(n(1), tuple(s("a"))), `(1 ("a"))`},
	{tag(s("a"), n(-7)), `#-7 "a"`},
	{mk(api.CRef, n(1)), "ref0"},
	{let("a", mk(api.CRef, n(1)), mk(api.CRef, v("a"))), "ref1"},
	// Names.
	{let("x", n(1), v("x")), "1"},
	{let("x", n(1), let("x", op(v("x"), "+", n(1)), v("x"))), "2"},
	{let("x", v("x"), n(1)), "stuck"},
	{app(app(fn("x", fn("y", op(v("x"), "-", v("y")))), n(5)), n(3)), "2"},
	{let("x", n(1), let("f", fn("y", v("x")), let("x", n(2), app(v("f"), n(3))))), "1"},
	{rec("f", "x", when(v("x"), op(v("x"), "+", app(v("f"), op(v("x"), "-", n(1)))), n(0)), app(v("f"), n(4))), "10"},
	{rec("f", "f", v("f"), app(v("f"), n(4))), "4"},
	{rec("f", "x", v("f"), app(v("f"), n(4))), "fn"},
	{rec("f", "x", n(1), v("x")), "stuck"},
	{let("f", n(7), rec("f", "x", n(1), v("f"))), "fn"},
	{v("x"), "stuck"},
	{app(n(1), n(2)), "stuck"},
	{app(n(1), say("a", n(2))), "stuck a"},
	// Tuples.
	{mk(api.CSel, three, n(0)), "10"},
	{mk(api.CSel, three, n(2)), "12"},
	{mk(api.CSel, three, n(3)), "stuck"},
	{mk(api.CSel, three, n(-1)), "stuck"},
	{mk(api.CSel, three, s("a")), "stuck"},
	{mk(api.CSel, n(1), n(0)), "stuck"},
	{mk(api.CSel, three, n(math.MaxInt64)), "stuck"},
	{mk(api.CIns, n(5), n(0), three), "(5 10 11 12)"},
	{mk(api.CIns, n(5), n(3), three), "(10 11 12 5)"},
	{mk(api.CIns, n(5), n(4), three), "stuck"},
	{mk(api.CIns, n(5), n(-1), three), "stuck"},
	{mk(api.CIns, n(5), n(0), unit), "(5)"},
	{mk(api.CIns, n(5), n(0), s("")), "stuck"},
	{mk(api.CDel, three, n(1)), "(10 12)"},
	{mk(api.CDel, three, n(3)), "stuck"},
	{mk(api.CDel, unit, n(0)), "stuck"},
	{mk(api.CPut, n(5), n(2), three), "(10 11 5)"},
	{mk(api.CPut, n(5), n(3), three), "stuck"},
	{mk(api.CPut, n(5), three, three), "stuck"},
	{let("t", three, let("u", mk(api.CPut, n(5), n(0), v("t")), v("t"))), "(10 11 12)"},
	{let("t", three, let("u", mk(api.CDel, v("t"), n(0)), tuple(v("t"), v("u")))), "((10 11 12) (11 12))"},
	// Tags.
	{tag(n(1), s("a")), "stuck"},
	{cases("x y", "", tag(n(7), n(2)), n(1), s("no"), n(2), v("y")), "7"},
	{cases("x y", "", tag(n(7), n(1)), n(1), v("x"), say("no", n(2)), s("no")), "7"},
	{cases("x y", "", tag(n(7), n(3)), say("a", n(1)), s("no"), say("b", n(2)), s("no")), "stuck a,b"},
	{cases("x x", "", tag(n(7), n(1)), n(1), v("x"), n(1), s("no")), "7"},
	{cases("x", "z", tag(n(7), n(1)), n(1), v("x"), v("z")), "7"},
	{cases("x y", "z", tag(n(7), n(5)), n(1), v("x"), n(3), v("x"), v("z")), "#3 7"},
	{cases("x y", "z", tag(n(7), n(5)), n(9), v("x"), n(3), v("x"), v("z")), "#4 7"},
	{cases("x y", "z", tag(n(7), n(5)), n(3), v("x"), n(3), v("x"), v("z")), "#3 7"},
	{cases("", "z", tag(n(7), n(-5)), v("z")), "#-5 7"},
	{cases("", "z", n(7), v("z")), "stuck"},
	{cases("x", "", n(7), say("no", n(1)), n(1)), "stuck"},
	{cases("x", "", tag(n(7), n(1)), say("a", s("b")), n(1)), "stuck a"},
	{cases("x y", "", tag(n(7), n(2)), s("b"), n(1), say("no", n(2)), n(1)), "stuck"},
	{cases("x", "z", tag(n(7), n(1)), n(1), v("z"), n(2)), "stuck"},
	{cases("x", "z", tag(n(7), n(1)), n(2), n(1), v("x")), "stuck"},
	// If.
	{when(n(-1), n(1), say("no", n(2))), "1"},
	{when(n(0), say("no", n(1)), n(2)), "2"},
	{when(s("a"), say("no", n(1)), say("no", n(2))), "stuck"},
	// References.
	{mk(api.CGet, mk(api.CRef, n(3))), "3"},
	{mk(api.CGet, n(3)), "stuck"},
	{mk(api.CSet, mk(api.CRef, n(3)), n(4)), "()"},
	{mk(api.CSet, n(3), say("a", n(4))), "stuck a"},
	{let("r", mk(api.CRef, n(3)), let("q", v("r"), let("_", mk(api.CSet, v("q"), s("b")), mk(api.CGet, v("r"))))), `"b"`},
	{let("r", mk(api.CRef, n(3)), let("_", mk(api.CSet, v("r"), v("r")), mk(api.CGet, v("r")))), "ref0"},
	// Texts.
	{mk(api.CPrint, s("a")), "() a"},
	{mk(api.CPrint, n(1)), "stuck"},
	{mk(api.CShow, n(-12)), `"-12"`},
	{mk(api.CShow, s("a")), "stuck"},
	{op(s("a"), "^", s("b")), `"ab"`},
	{op(s("a"), "^", n(1)), "stuck"},
	{op(n(1), "^", s("a")), "stuck"},
	{op(s(long), "^", s("")), `"` + long + `"`},
	{op(s(long), "^", s("a")), "fault 2"},
	{op(s("ab\xff"), "#", n(2)), "255"},
	{op(s("ab"), "#", n(2)), "fault 2"},
	{op(s("ab"), "#", n(-1)), "fault 2"},
	{op(s("ab"), "#", n(math.MinInt64)), "fault 2"},
	{op(s("ab"), "#", s("a")), "stuck"},
	{op(n(1), "#", n(1)), "stuck"},
	// Integers.
	{op(n(math.MaxInt64), "+", n(1)), "-9223372036854775808"},
	{op(n(math.MinInt64), "-", n(1)), "9223372036854775807"},
	{op(n(math.MaxInt64), "*", n(2)), "-2"},
	{op(n(-7), "/", n(2)), "-3"},
	{op(n(7), "/", n(-2)), "-3"},
	{op(n(math.MinInt64), "/", n(-1)), "-9223372036854775808"},
	{op(n(7), "/", n(0)), "fault 1"},
	{op(s("7"), "/", n(0)), "stuck"},
	{op(n(1), "<", n(2)), "1"},
	{op(n(2), "<", n(2)), "0"},
	{op(n(2), "==", n(2)), "1"},
	{op(n(1), "==", n(2)), "0"},
	{op(s("a"), "==", s("a")), "stuck"},
	{op(n(1), "%", n(2)), "stuck"},
	{op(n(1), "", say("a", n(2))), "stuck a"},
	{op(say("a", n(1)), "+", say("b", s("x"))), "stuck a,b"},
	// The order of parts.
	{tuple(say("a", n(1)), say("b", n(2)), say("c", n(3))), "(1 2 3) a,b,c"},
	{mk(api.CIns, say("a", n(1)), say("b", n(0)), say("c", unit)), "(1) a,b,c"},
	{mk(api.CPut, say("a", n(1)), say("b", n(0)), say("c", n(5))), "stuck a,b,c"},
	{app(say("a", fn("x", say("c", v("x")))), say("b", n(1))), "1 a,b,c"},
	{let("x", say("a", n(1)), say("b", v("x"))), "1 a,b"},
	{op(op(n(1), "/", n(0)), "+", say("no", n(1))), "fault 1"},
	// Another number of parts, told ahead of all parts; kinds that there aren't.
	{expr{}, "stuck"},
	{mk(23, say("no", n(1))), "stuck"},
	{mk(-1), "stuck"},
	{mk(api.CPrint), "stuck"},
	{mk(api.CPrint, say("no", s("a")), s("b")), "stuck"},
	{mk(api.CInt, say("no", n(1))), "stuck"},
	{mk(api.CApp, say("no", fn("x", n(1)))), "stuck"},
	{mk(api.CIf, say("no", n(1)), n(1)), "stuck"},
	{expr{Kind: api.CFn, S: "x"}, "stuck"},
	{expr{Kind: api.CRec, S: "f", T: "x", L: []expr{n(1)}}, "stuck"},
	{cases("x", "", say("no", tag(n(1), n(1))), n(1)), "stuck"},
	{cases("x", "", say("no", tag(n(1), n(1))), n(1), n(2), n(3)), "stuck"},
	{cases("x", "z", say("no", tag(n(1), n(1))), n(1), n(2)), "stuck"},
	{cases("", "", tag(n(1), n(1))), "stuck"},
	{app(fn("x", mk(api.CShow)), n(1)), "stuck"},
	{fn("x", mk(api.CShow)), "fn"},
	{when(n(1), n(2), mk(api.CShow)), "2"},
	// Fields that a kind doesn't have make no difference.
	{expr{Kind: api.CInt, N: 4, S: "a", T: "b", Names: []string{"c"}}, "4"},
}

// P14.1
func TestRun(t *testing.T) {
	for i, c := range runs {
		if got := end(c.e, 1000); got != c.want {
			t.Errorf("%d: %s, not %s", i, got, c.want)
		}
	}
}

// P14.1
func TestRead(t *testing.T) {
	read := mk(api.CRead)
	if got := end(tuple(read, read), 100, "a", "b\n", "c"); got != `("a" "b\n")` {
		t.Error(got)
	}
	if got := end(say("p", tuple(read, read)), 100, "a"); got != "fault 3 p" {
		t.Error(got)
	}
	if got := end(read, 100); got != "fault 3" {
		t.Error(got)
	}
	if got := end(read, 100, long); got != `"`+long+`"` {
		t.Error(got)
	}
	if got := end(read, 100, long+"x"); got != "fault 2" {
		t.Error(got)
	}
	if got := end(mk(api.CRead, n(1)), 100, "a"); got != "stuck" {
		t.Error(got)
	}
}

// P14.1: a step is each expression that is begun.
func TestSteps(t *testing.T) {
	for i, c := range []struct {
		e     expr
		steps int
	}{
		{n(1), 1},
		{op(n(2), "+", n(3)), 3},
		{let("x", n(1), v("x")), 3},
		{app(fn("x", v("x")), n(1)), 4},
		{rec("f", "x", v("x"), app(v("f"), n(1))), 5},
		{when(n(1), n(2), tuple(n(1), n(2))), 3},
		{cases("x y", "", tag(n(7), n(2)), n(1), n(1), n(2), v("y")), 7},
		{cases("x", "z", tag(n(7), n(2)), n(1), n(1), v("z")), 6},
		{mk(23), 1},
		{mk(api.CPrint, n(1), n(2)), 1},
		{v("no"), 1},
	} {
		whole := end(c.e, c.steps)
		if strings.Contains(whole, "fuel") || whole != end(c.e, c.steps+1) || whole != end(c.e, math.MaxInt) {
			t.Error(i, whole)
		}
		for fuel := range c.steps {
			if got := end(c.e, fuel); got != "fuel" {
				t.Error(i, fuel, got)
			}
		}
		for _, fuel := range []int{-1, math.MinInt} {
			if got := end(c.e, fuel); got != "fuel" {
				t.Error(i, fuel, got)
			}
		}
	}
}

// P14.1, P1: deep, for long, and with deep values.
func TestDeep(t *testing.T) {
	loop := rec("f", "x", app(v("f"), v("x")), app(v("f"), n(0)))
	if got := end(loop, 3000000); got != "fuel" {
		t.Error(got)
	}
	grow := rec("f", "x", op(n(1), "+", app(v("f"), v("x"))), app(v("f"), n(0)))
	if got := end(grow, 3000000); got != "fuel" {
		t.Error(got)
	}
	sum := rec("f", "x", when(v("x"), op(v("x"), "+", app(v("f"), op(v("x"), "-", n(1)))), n(0)), app(v("f"), n(100000)))
	if got := end(sum, 3000000); got != "5000050000" {
		t.Error(got)
	}
	nest := rec("f", "x", fn("y", when(v("x"), app(app(v("f"), op(v("x"), "-", n(1))), tuple(v("y"))), v("y"))), app(app(v("f"), n(500000)), n(0)))
	val, out := core.Run(nest, nil, 30000000)
	for range 500000 {
		val = val.L[0]
	}
	if out.Err != 0 || text(val) != "0" {
		t.Error(out)
	}
	e := n(1)
	for range 50000 {
		e = op(e, "+", n(1))
	}
	if got := end(e, 3000000); got != "50001" {
		t.Error(got)
	}
	for range 50000 {
		e = rec("f", "x", n(1), e)
	}
	if got := end(e, 3000000); got != "50001" {
		t.Error(got)
	}
}

// P14.4
func TestMoreFuel(t *testing.T) {
	read := mk(api.CRead)
	for i, c := range append(slices.Clone(runs), struct {
		e    expr
		want string
	}{rec("f", "x", say("a", app(v("f"), let("_", mk(api.CPrint, read), v("x")))), app(v("f"), n(1))), "fault 3 a,l1,a,l2,a"}) {
		var trace []string
		ended := ""
		for fuel := range 60 {
			_, out := core.Run(c.e, []string{"l1", "l2"}, fuel)
			if len(out.Trace) < len(trace) || !slices.Equal(out.Trace[:len(trace)], trace) {
				t.Fatal(i, fuel, out.Trace, trace)
			}
			trace = out.Trace
			got := end(c.e, fuel, "l1", "l2")
			if ended != "" && got != ended {
				t.Fatal(i, fuel, got, ended)
			}
			if out.Err != api.ErrFuel {
				ended = got
			}
		}
		if ended != c.want {
			t.Error(i, ended, c.want)
		}
	}
}

// P14.2
func TestFree(t *testing.T) {
	abc := []expr{v("a"), v("b"), v("c")}
	for i, c := range []struct {
		e    expr
		want []string
	}{
		{n(1), nil},
		{v("a"), []string{"a"}},
		{tuple(v("b"), v("a"), v("b")), []string{"a", "b"}},
		{fn("a", tuple(abc...)), []string{"b", "c"}},
		{let("a", v("a"), tuple(abc...)), []string{"a", "b", "c"}},
		{let("a", v("b"), v("a")), []string{"b"}},
		{rec("a", "b", tuple(abc...), tuple(abc...)), []string{"b", "c"}},
		{rec("a", "a", v("a"), v("a")), nil},
		{cases("a b", "c", v("q"), v("a"), v("a"), v("b"), v("b"), v("c")), []string{"a", "b", "q"}},
		{cases("a", "c", v("c"), v("c"), v("b"), v("a")), []string{"a", "b", "c"}},
		{cases("", "c", v("c"), v("c")), []string{"c"}},
		{cases("", "c", n(1), v("c")), nil},
		// What is of another form.
		{expr{}, nil},
		{mk(99, abc...), []string{"a", "b", "c"}},
		{expr{Kind: api.CVar, S: "x", L: abc}, []string{"a", "b", "c", "x"}},
		{expr{Kind: api.CFn, S: "a", L: []expr{v("b"), v("a")}}, []string{"a", "b"}},
		{expr{Kind: api.CLet, S: "a", L: []expr{n(1), v("a"), v("a")}}, []string{"a"}},
		{expr{Kind: api.CRec, S: "a", T: "b", L: abc}, []string{"b", "c"}},
		{cases("", "", n(1), v("")), nil},
		{cases("", "", v(""), v("")), []string{""}},
		{cases("a", "", n(1), n(1), v("a"), v(""), v("a")), []string{"a"}},
		{cases("a b", "z", n(1), n(1)), nil},
		{fn("", v("")), nil},
	} {
		if got := core.Free(c.e); !slices.Equal(got, c.want) {
			t.Error(i, got)
		}
	}
	e := n(1)
	for i := range 30000 {
		e = app(e, v(fmt.Sprintf("x%05d", i)))
	}
	if l := core.Free(e); len(l) != 30000 || !slices.IsSorted(l) {
		t.Error(len(l))
	}
}

// P14.2
func TestNodesAndSame(t *testing.T) {
	if core.Nodes(expr{}) != 1 || core.Nodes(tuple(n(1), mk(99, n(1), n(2)))) != 5 {
		t.Error("Nodes")
	}
	for i, a := range runs {
		for j, b := range runs {
			if same := fmt.Sprint(a.e) == fmt.Sprint(b.e); core.Same(a.e, b.e) != same || core.Same(fn("x", a.e), fn("x", b.e)) != same {
				t.Error(i, j)
			}
		}
	}
	a := expr{Kind: 1, N: 1, S: "a", T: "b", Names: []string{"c"}, L: []expr{n(1)}}
	for i, change := range []func(e *expr){
		func(e *expr) { e.Kind++ }, func(e *expr) { e.N++ }, func(e *expr) { e.S = "" }, func(e *expr) { e.T = "" },
		func(e *expr) { e.Names = nil }, func(e *expr) { e.Names = []string{"d"} }, func(e *expr) { e.L = nil }, func(e *expr) { e.L = []expr{n(2)} },
	} {
		b := a
		change(&b)
		if core.Same(a, b) || core.Same(b, a) {
			t.Error(i)
		}
	}
	if !core.Same(expr{L: []expr{}}, expr{Names: []string{}}) {
		t.Error("nil and empty")
	}
}

// P14.3, R2
func TestNothingIsShared(t *testing.T) {
	e := let("t", tuple(mk(api.CRead), n(2)), tuple(v("t"), v("t")))
	was := let("t", tuple(mk(api.CRead), n(2)), tuple(v("t"), v("t")))
	input := []string{"a", "b"}
	got, out := core.Run(say("x", e), input, 100)
	got.L[0].L[0].S, out.Trace[0] = "changed", "changed"
	if text(got.L[1]) != `("a" 2)` || !core.Same(e, was) || !slices.Equal(input, []string{"a", "b"}) {
		t.Error(text(got), e, input)
	}
	free := core.Free(was.L[1])
	free[0] = "changed"
	if again := core.Free(was.L[1]); again[0] != "t" {
		t.Error(again)
	}
}
