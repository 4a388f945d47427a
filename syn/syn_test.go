package syn_test

import (
	"fmt"
	"math"
	"slices"
	"strings"
	"testing"

	"bushel/api"
	"bushel/syn"
)

type expr = api.Expr

func v(s string) expr { return expr{Kind: api.Var, S: s} }

var one = expr{Kind: api.Int, N: 1}

// samples has one of each kind, or more, that may be.
func samples() []expr {
	return []expr{
		{Kind: api.Int, N: 5},
		{Kind: api.Int},
		{Kind: api.Text, S: "a\n\""},
		{Kind: api.Text},
		{Kind: api.Var, S: "x"},
		{Kind: api.Fn, S: "x", L: []expr{one}},
		{Kind: api.App, L: []expr{one, one}},
		{Kind: api.Let, S: "x", L: []expr{one, one}},
		{Kind: api.Rec, S: "f", T: "x", L: []expr{one, one}},
		{Kind: api.Record},
		{Kind: api.Record, Labels: []string{"a", "b1"}, L: []expr{one, one}},
		{Kind: api.Sel, S: "a", L: []expr{one}},
		{Kind: api.Ext, S: "a", L: []expr{one, one}},
		{Kind: api.Cut, S: "a", L: []expr{one}},
		{Kind: api.Upd, S: "a", L: []expr{one, one}},
		{Kind: api.Tag, S: "A", L: []expr{one}},
		{Kind: api.Match, Labels: []string{"A", "B"}, Names: []string{"x", "x"}, L: []expr{one, one, one}},
		{Kind: api.Match, Labels: []string{"A"}, Names: []string{"x"}, T: "x", L: []expr{one, one, one}},
		{Kind: api.Match, T: "x", L: []expr{one, one}},
		{Kind: api.If, L: []expr{one, one, one}},
		{Kind: api.Op, S: "+", L: []expr{one, one}},
		{Kind: api.Ref, L: []expr{one}},
		{Kind: api.Get, L: []expr{one}},
		{Kind: api.Set, L: []expr{one, one}},
		{Kind: api.Print, L: []expr{one}},
		{Kind: api.Show, L: []expr{one}},
		{Kind: api.Read},
	}
}

// uses tells which of the fields N, S, T, labels and names a kind has.
var uses = map[int]string{
	api.Int: "N", api.Text: "S", api.Var: "S", api.Fn: "S", api.Let: "S", api.Rec: "ST", api.Record: "L", api.Sel: "S",
	api.Ext: "S", api.Cut: "S", api.Upd: "S", api.Tag: "S", api.Match: "TLM", api.Op: "S",
}

// P5.1
func TestMayOfEachKind(t *testing.T) {
	for i, e := range samples() {
		if !syn.May(e) {
			t.Error(i, "may be")
		}
		e.At = -77
		if !syn.May(e) {
			t.Error(i, "At makes a difference")
		}
		use := uses[e.Kind]
		for name, change := range map[string]func(e *expr){
			"N": func(e *expr) { e.N = 1 },
			"S": func(e *expr) { e.S = "x" },
			"T": func(e *expr) { e.T = "x" },
			"L": func(e *expr) { e.Labels = []string{"a"} },
			"M": func(e *expr) { e.Names = []string{"x"} },
		} {
			other := e
			change(&other)
			if !strings.Contains(use, name) && syn.May(other) {
				t.Error(i, "may have", name)
			}
		}
		more, bad := e, e
		more.L = append(slices.Clone(e.L), one)
		if syn.May(more) {
			t.Error(i, "one part more")
		}
		if len(e.L) > 0 {
			bad.L = slices.Clone(e.L)
			bad.L[len(bad.L)-1] = expr{}
			less := e
			less.L = e.L[1:]
			if syn.May(bad) || syn.May(less) {
				t.Error(i, "a bad part, or one less")
			}
		}
	}
	for _, kind := range []int{0, -1, 23, math.MaxInt, math.MinInt} {
		if syn.May(expr{Kind: kind}) {
			t.Error(kind)
		}
	}
	if syn.May(expr{Kind: api.Int, N: -1}) || !syn.May(expr{Kind: api.Int, N: math.MaxInt64}) || syn.May(expr{Kind: api.Read, N: -1}) {
		t.Error("N")
	}
}

// P5.1
func TestMayOfNames(t *testing.T) {
	names := map[string]bool{"a": true, "z9x": true, strings.Repeat("a", 20): true, strings.Repeat("a", 21): false, "": false, "A": false,
		"let": false, "read": false, "lets": true, "a ": false, " a": false, "aB": false, "a_": false, "1": false, "a b": false, "\"a\"": false, "ä": false}
	tags := map[string]bool{"A": true, "Ab9Z": true, "A" + strings.Repeat("b", 19): true, "A" + strings.Repeat("b", 20): false, "": false, "a": false, "A ": false, "A b": false, "1A": false}
	for _, kind := range []int{api.Var, api.Fn, api.Let, api.Rec, api.Sel, api.Ext, api.Cut, api.Upd} {
		for s, may := range names {
			e := expr{Kind: kind, S: s, L: slices.Repeat([]expr{one}, syn.Parts(kind, 0, false))}
			if kind == api.Rec {
				e.T = "x"
			}
			if syn.May(e) != may {
				t.Error(kind, s)
			}
		}
	}
	for s, may := range names {
		if syn.May(expr{Kind: api.Rec, S: "f", T: s, L: []expr{one, one}}) != may {
			t.Error("Rec", s)
		}
		if syn.May(expr{Kind: api.Record, Labels: []string{s}, L: []expr{one}}) != may {
			t.Error("Record", s)
		}
		if syn.May(expr{Kind: api.Match, Labels: []string{"A"}, Names: []string{s}, L: []expr{one, one}}) != may {
			t.Error("Match", s)
		}
		if syn.May(expr{Kind: api.Match, T: s, L: []expr{one, one}}) != may {
			t.Error("Match, the rest", s)
		}
	}
	for s, may := range tags {
		if syn.May(expr{Kind: api.Tag, S: s, L: []expr{one}}) != may {
			t.Error("Tag", s)
		}
		if syn.May(expr{Kind: api.Match, Labels: []string{s}, Names: []string{"x"}, L: []expr{one, one}}) != may {
			t.Error("Match's tag", s)
		}
	}
	for _, s := range []string{"\t", "\x7f", "ä", strings.Repeat("a", api.MaxText+1)} {
		if syn.May(expr{Kind: api.Text, S: s}) {
			t.Error("Text", s)
		}
	}
	for _, s := range []string{"+", "-", "*", "/", "<", "==", "^", "#"} {
		if !syn.May(expr{Kind: api.Op, S: s, L: []expr{one, one}}) {
			t.Error("Op", s)
		}
	}
	for _, s := range []string{"", "=", "+ ", ":=", "!", "->", ">"} {
		if syn.May(expr{Kind: api.Op, S: s, L: []expr{one, one}}) {
			t.Error("Op", s)
		}
	}
}

// P5.1
func TestMayOfLabels(t *testing.T) {
	record := func(l ...string) expr {
		return expr{Kind: api.Record, Labels: l, L: slices.Repeat([]expr{one}, len(l))}
	}
	match := func(l ...string) expr {
		return expr{Kind: api.Match, Labels: l, Names: slices.Repeat([]string{"x"}, len(l)), L: slices.Repeat([]expr{one}, len(l)+1)}
	}
	if syn.May(record("b", "a")) || syn.May(record("a", "a")) || !syn.May(record("a", "a0", "aa", "b")) {
		t.Error("Record")
	}
	if syn.May(match("B", "A")) || syn.May(match("A", "A")) || !syn.May(match("A", "AA", "Aa", "B")) || syn.May(match()) {
		t.Error("Match")
	}
	var l, tags []string
	for i := range api.MaxLabels {
		l, tags = append(l, fmt.Sprintf("a%02d", i)), append(tags, fmt.Sprintf("A%02d", i))
	}
	if !syn.May(record(l...)) || syn.May(record(append(l, "b")...)) || !syn.May(match(tags...)) || syn.May(match(append(tags, "B")...)) {
		t.Error("how many")
	}
	e := match("A", "B")
	e.Names = e.Names[1:]
	if syn.May(e) {
		t.Error("a name less")
	}
	e.Names = []string{"x", "x", "x"}
	if syn.May(e) {
		t.Error("a name more")
	}
	e = record("a")
	e.T = "x"
	if syn.May(e) {
		t.Error("a Record with T")
	}
}

// chain is so deep, and has as many nodes.
func chain(deep int) expr {
	e := one
	for range deep - 1 {
		e = expr{Kind: api.Ref, L: []expr{e}}
	}
	return e
}

// wide has so many nodes.
func wide(nodes int) expr {
	e := expr{Kind: api.Record}
	var l []expr
	for i := range 30 {
		e.Labels = append(e.Labels, fmt.Sprintf("a%02d", i))
		l = append(l, chain((nodes-1+i)/30))
	}
	e.L = l
	return e
}

// P5.1
func TestMayOfSizes(t *testing.T) {
	if !syn.May(chain(api.MaxDepth)) || syn.May(chain(api.MaxDepth+1)) || syn.May(chain(60000)) {
		t.Error("depth")
	}
	e := expr{Kind: api.Ref, L: []expr{wide(api.MaxNodes - 1)}}
	if !syn.May(wide(api.MaxNodes-1)) || !syn.May(e) {
		t.Error("as many nodes as may be")
	}
	if syn.May(expr{Kind: api.Ref, L: []expr{e}}) || syn.Nodes(e) != api.MaxNodes {
		t.Error("a node more")
	}
	// As deep as may be, with parts that are shared: it is refused without a look at each.
	e = one
	for range api.MaxDepth - 1 {
		e = expr{Kind: api.App, L: []expr{e, e}}
	}
	if syn.May(e) {
		t.Error("2^60 nodes")
	}
}

// P5.1
func TestDepthAndNodes(t *testing.T) {
	if d, n := syn.Depth(expr{}), syn.Nodes(expr{}); d != 1 || n != 1 {
		t.Error(d, n)
	}
	if d, n := syn.Depth(chain(50000)), syn.Nodes(chain(50000)); d != 50000 || n != 50000 {
		t.Error(d, n)
	}
	e := expr{Kind: 99, L: []expr{one, chain(7), {Kind: api.If, L: []expr{one, one}}}}
	if d, n := syn.Depth(e), syn.Nodes(e); d != 8 || n != 12 {
		t.Error(d, n)
	}
}

// P5.1
func TestSame(t *testing.T) {
	all := append(samples(), expr{}, expr{Kind: -1})
	for i, a := range all {
		for j, b := range all {
			if syn.Same(a, b) != (i == j) {
				t.Error(i, j)
			}
		}
		deep := func(e expr, at int) expr {
			e.At = at
			return expr{Kind: api.Ref, At: at * 2, L: []expr{e}}
		}
		if !syn.Same(deep(a, 1), deep(a, 2)) || syn.Same(a, deep(a, 1)) {
			t.Error(i)
		}
		for n, change := range []func(e *expr){
			func(e *expr) { e.Kind += 100 }, func(e *expr) { e.N++ }, func(e *expr) { e.S += "x" }, func(e *expr) { e.T += "x" },
			func(e *expr) { e.Labels = append(slices.Clone(e.Labels), "") },
			func(e *expr) { e.Names = append(slices.Clone(e.Names), "") },
			func(e *expr) { e.L = append(slices.Clone(e.L), expr{}) },
		} {
			b := a
			change(&b)
			if syn.Same(a, b) || syn.Same(deep(b, 0), deep(a, 0)) {
				t.Error(i, n)
			}
		}
	}
	if !syn.Same(expr{L: []expr{}, Labels: []string{}}, expr{Names: []string{}}) {
		t.Error("nil and empty")
	}
}

// P5.1
func TestParts(t *testing.T) {
	for _, e := range samples() {
		if n := syn.Parts(e.Kind, len(e.Labels), e.T != ""); n != len(e.L) {
			t.Error(e.Kind, n)
		}
	}
	for _, c := range [][3]int{{0, 0, -1}, {23, 0, -1}, {-5, 3, -1}, {api.Record, 7, 7}, {api.Match, 0, 1}, {api.Match, 7, 8}, {api.If, 7, 3}} {
		if n := syn.Parts(c[0], c[1], false); n != c[2] {
			t.Error(c, n)
		}
	}
	if a, b := syn.Parts(api.Match, 7, true), syn.Parts(api.Record, 7, true); a != 9 || b != 7 {
		t.Error(a, b)
	}
	for _, n := range []int{-1, math.MaxInt, math.MinInt} {
		syn.Parts(api.Match, n, true)
	}
}

// P5.2
func TestFree(t *testing.T) {
	xyz := []expr{v("x"), v("y"), v("z")}
	for i, c := range []struct {
		e    expr
		want []string
	}{
		{one, nil},
		{v("b"), []string{"b"}},
		{expr{Kind: api.Fn, S: "a", L: []expr{{Kind: api.App, L: []expr{v("a"), v("b")}}}}, []string{"b"}},
		{expr{Kind: api.App, L: []expr{v("b"), {Kind: api.App, L: []expr{v("a"), v("b")}}}}, []string{"a", "b"}},
		{expr{Kind: api.Let, S: "x", L: []expr{v("x"), v("x")}}, []string{"x"}},
		{expr{Kind: api.Let, S: "x", L: []expr{v("y"), v("x")}}, []string{"y"}},
		{expr{Kind: api.Rec, S: "x", T: "y", L: []expr{{Kind: api.If, L: xyz}, {Kind: api.If, L: xyz}}}, []string{"y", "z"}},
		{expr{Kind: api.Rec, S: "x", T: "x", L: []expr{v("x"), v("x")}}, nil},
		{expr{Kind: api.Match, Labels: []string{"A", "B"}, Names: []string{"x", "y"}, T: "z", L: []expr{v("q"), v("x"), v("x"), v("z")}}, []string{"q", "x"}},
		{expr{Kind: api.Match, Labels: []string{"A"}, Names: []string{"x"}, T: "z", L: []expr{v("x"), v("z"), v("x")}}, []string{"x", "z"}},
		{expr{Kind: api.Match, T: "z", L: []expr{v("z"), v("z")}}, []string{"z"}},
		// What may not be.
		{expr{}, nil},
		{expr{Kind: 99, L: xyz}, []string{"x", "y", "z"}},
		{expr{Kind: api.Var, S: "x", L: xyz[1:]}, []string{"x", "y", "z"}},
		{expr{Kind: api.Fn, S: "x", L: []expr{v("x"), v("x")}}, []string{"x"}},
		{expr{Kind: api.Fn, S: "x"}, nil},
		{expr{Kind: api.Let, S: "x", L: []expr{v("y"), v("x"), v("x")}}, []string{"x", "y"}},
		{expr{Kind: api.Rec, S: "x", T: "y", L: xyz}, []string{"y", "z"}},
		{expr{Kind: api.Match, Labels: []string{"A"}, L: []expr{v("a"), v(""), v("")}}, []string{"", "a"}},
		{expr{Kind: api.Match, Labels: []string{"A"}, Names: []string{"x", "y"}, L: []expr{v("q"), v("x"), v("y"), v(""), v("z")}}, []string{"q", "y", "z"}},
		{expr{Kind: api.Match, Labels: []string{"A", "B"}, Names: []string{"x"}, L: []expr{v("q"), v("x"), v("x")}}, []string{"q", "x"}},
		{expr{Kind: api.Match, L: []expr{v(""), v("")}}, []string{""}},
		{expr{Kind: api.Fn, L: []expr{v("")}}, nil},
	} {
		if got := syn.Free(c.e); !slices.Equal(got, c.want) {
			t.Errorf("%d: %q", i, got)
		}
	}
	if l := syn.Free(v("")); len(l) != 1 || l[0] != "" {
		t.Error(l)
	}
}

// P5.2: deep, and with many names.
func TestFreeOfMany(t *testing.T) {
	e := one
	for i := range 30000 {
		e = expr{Kind: api.App, L: []expr{e, v(fmt.Sprintf("x%05d", i))}}
	}
	if l := syn.Free(e); len(l) != 30000 || !slices.IsSorted(l) {
		t.Error(len(l))
	}
}

// P5.3, R2
func TestNothingIsChanged(t *testing.T) {
	e := expr{Kind: api.Match, Labels: []string{"A"}, Names: []string{"x"}, T: "z", L: []expr{v("b"), v("a"), v("z")}}
	l := syn.Free(e)
	l[0] = "changed"
	if again := syn.Free(e); !slices.Equal(again, []string{"a", "b"}) || e.Names[0] != "x" {
		t.Error(again, e)
	}
}

// P5.4
func TestPartsOfWhatMayBe(t *testing.T) {
	for i, e := range samples() {
		for j, part := range e.L {
			if !syn.May(part) {
				t.Error(i, j)
			}
		}
	}
}
