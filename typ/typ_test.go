package typ_test

import (
	"fmt"
	"math"
	"slices"
	"strings"
	"testing"

	"bushel/api"
	"bushel/samples"
	"bushel/typ"
)

type tp = api.Type

var (
	integer = tp{Kind: api.TInt, Tail: -1}
	text    = tp{Kind: api.TText, Tail: -1}
)

func ref(t tp) tp { return tp{Kind: api.TRef, L: []tp{t}, Tail: -1} }

// rec is a record of fields, of integers if nothing else is told.
func rec(tail int, labels string, l ...tp) tp {
	names := strings.Fields(labels)
	for len(l) < len(names) {
		l = append(l, integer)
	}
	return typ.Row(api.TRec, names, l, tail)
}

func sum(tail int, labels string, l ...tp) tp {
	t := rec(tail, labels, l...)
	t.Kind = api.TSum
	return t
}

// good are types that may be, and their texts.
var good = []struct {
	t    tp
	text string
}{
	{integer, "int"},
	{text, "text"},
	{typ.Var(7), "'0"},
	{typ.Fn(typ.Var(7), typ.Var(7)), "'0 -> '0"},
	{typ.Fn(typ.Var(7), typ.Fn(typ.Var(0), typ.Var(7))), "'0 -> '1 -> '0"},
	{typ.Fn(typ.Fn(typ.Var(7), typ.Var(3)), typ.Var(3)), "('0 -> '1) -> '1"},
	{ref(integer), "ref int"},
	{ref(ref(integer)), "ref (ref int)"},
	{ref(typ.Fn(integer, text)), "ref (int -> text)"},
	{typ.Fn(ref(integer), ref(text)), "ref int -> ref text"},
	{rec(-1, ""), "{}"},
	{rec(5, ""), "{..0}"},
	{sum(-1, ""), "<>"},
	{sum(5, ""), "<..0>"},
	{rec(-1, "a"), "{a : int}"},
	{rec(0, "a b", integer, text), "{a : int, b : text | ..0}"},
	{sum(-1, "A B", typ.Fn(integer, text), ref(text)), "<A : int -> text, B : ref text>"},
	{sum(3, "A", typ.Var(3)), "<A : '0 | ..0>"},
	{ref(rec(-1, "a")), "ref {a : int}"},
	{rec(9, "a b", rec(8, "x", typ.Var(9)), rec(9, "y", typ.Var(8))), "{a : {x : '0 | ..0}, b : {y : '1 | ..1} | ..1}"},
	{typ.Fn(rec(4, "a", typ.Var(2)), typ.Fn(sum(2, ""), typ.Var(4))), "{a : '0 | ..0} -> <..1> -> '1"},
}

// deep is so many nodes, one in the other.
func deep(nodes int) tp {
	t := integer
	for range nodes - 1 {
		t = tp{Kind: api.TRef, L: []tp{t}, Tail: -1}
	}
	return t
}

// P10.1
func TestMayAndText(t *testing.T) {
	for i, c := range good {
		if !typ.May(c.t) || typ.Text(c.t) != c.text {
			t.Errorf("%d: %v %q, not %q", i, typ.May(c.t), typ.Text(c.t), c.text)
		}
	}
	for i, bad := range bads() {
		for j, b := range []tp{bad, ref(bad), rec(-1, "a", bad)} {
			if typ.May(b) || typ.Text(b) != "" {
				t.Error(i, j, b)
			}
		}
	}
	if !typ.May(deep(api.MaxTypes)) || typ.May(deep(api.MaxTypes+1)) || typ.May(deep(60000)) {
		t.Error("how many nodes")
	}
	if s := typ.Text(deep(3)); s != "ref (ref int)" {
		t.Error(s)
	}
	// Parts that are shared: it is refused without a look at each.
	shared := integer
	for range 60 {
		shared.L = []tp{shared, shared}
		shared = tp{Kind: api.TFn, L: []tp{shared, shared}, Tail: -1}
	}
	if typ.May(shared) {
		t.Error("2^60 nodes")
	}
}

// bads are types that may not be.
func bads() []tp {
	l := []tp{
		{}, {Kind: 8, Tail: -1}, {Kind: -1, Tail: -1}, typ.Var(-1), rec(-2, "a"), sum(math.MinInt, ""),
		rec(0, "b a"), rec(0, "a a"), typ.Row(api.TRec, []string{""}, []tp{integer}, -1), typ.Row(api.TSum, []string{"", "a"}, []tp{integer, integer}, 1),
		typ.Row(api.TRec, []string{"a"}, nil, -1), typ.Row(api.TRec, nil, []tp{integer}, -1), typ.Row(api.TInt, []string{"a"}, nil, -1),
	}
	for _, c := range good[:7] {
		for _, change := range []func(t *tp){
			func(t *tp) { t.Tail = 0 },
			func(t *tp) { t.Tail = -2 },
			func(t *tp) { t.Labels = []string{"a"} },
			func(t *tp) { t.L = append(slices.Clone(t.L), integer) },
		} {
			b := c.t
			change(&b)
			l = append(l, b)
		}
		if c.t.Kind != api.TVar {
			b := c.t
			b.N = 1
			l = append(l, b)
		}
		if len(c.t.L) > 0 {
			b := c.t
			b.L = b.L[1:]
			l = append(l, b)
		}
	}
	row := rec(1, "a")
	row.N = 1
	return append(l, row)
}

// whole tells all of a type.
func whole(t tp) string {
	s := fmt.Sprint(t.Kind, t.N, t.Tail, len(t.Labels), len(t.L), strings.Join(t.Labels, ","))
	for _, part := range t.L {
		s += " " + whole(part)
	}
	return s
}

// P10.1
func TestSame(t *testing.T) {
	all := bads()
	for _, c := range good {
		all = append(all, c.t)
	}
	for i, a := range all {
		for j, b := range all {
			if same := whole(a) == whole(b); typ.Same(a, b) != same || typ.Same(ref(a), ref(b)) != same {
				t.Error(i, j)
			}
		}
	}
	if !typ.Same(tp{L: []tp{}}, tp{Labels: []string{}}) || typ.Same(typ.Var(1), typ.Var(2)) || typ.Same(rec(1, "a"), rec(2, "a")) || typ.Same(rec(1, "a"), rec(1, "b")) {
		t.Error("same")
	}
}

// P10.1
func TestVars(t *testing.T) {
	v := typ.Var
	for i, c := range []struct {
		t           tp
		types, rows []int
	}{
		{integer, nil, nil},
		{v(3), []int{3}, nil},
		{typ.Fn(v(3), typ.Fn(v(1), v(3))), []int{3, 1}, nil},
		{rec(5, "a b", rec(2, "x", v(9)), sum(5, "Y", v(2))), []int{9, 2}, []int{2, 5}},
		{typ.Fn(rec(5, "a", rec(7, "")), sum(5, "")), nil, []int{7, 5}},
		// What may not be.
		{tp{}, nil, nil},
		{v(-4), []int{-4}, nil},
		{tp{Kind: api.TVar, N: 2, L: []tp{v(1), v(2), v(-1)}}, []int{2, 1, -1}, nil},
		{tp{Kind: api.TFn, N: 6, Tail: 9, L: []tp{v(1), rec(-3, "")}}, []int{1}, nil},
		{tp{Kind: api.TSum, N: 6, Tail: 9, L: []tp{{Kind: 99, Tail: 3, L: []tp{rec(8, "")}}}}, nil, []int{8, 9}},
	} {
		types, rows := typ.Vars(c.t)
		if !slices.Equal(types, c.types) || !slices.Equal(rows, c.rows) {
			t.Error(i, types, rows)
		}
	}
}

// P10.1, P1: what is told of anything.
func TestMade(t *testing.T) {
	if got := typ.Var(-5); !typ.Same(got, tp{Kind: api.TVar, N: -5, Tail: -1}) {
		t.Error(got)
	}
	if got := typ.Fn(tp{}, text); !typ.Same(got, tp{Kind: api.TFn, L: []tp{{}, text}, Tail: -1}) {
		t.Error(got)
	}
	if got := typ.Row(-3, []string{"b", "a"}, []tp{text}, -9); !typ.Same(got, tp{Kind: -3, Labels: []string{"b", "a"}, L: []tp{text}, Tail: -9}) {
		t.Error(got)
	}
}

// P10.2
func TestPut(t *testing.T) {
	v := typ.Var
	types := map[int]tp{0: integer, 1: typ.Fn(v(0), v(1)), 9: rec(3, "q")}
	rows := map[int]tp{0: rec(-1, ""), 1: rec(0, "b", v(0)), 3: rec(4, "a c", v(1), rec(1, "z"))}
	for i, c := range []struct{ t, want tp }{
		{integer, integer},
		{v(0), integer},
		{v(1), typ.Fn(v(0), v(1))},
		{v(2), v(2)},
		{ref(typ.Fn(v(1), v(9))), ref(typ.Fn(typ.Fn(v(0), v(1)), rec(3, "q")))},
		{rec(0, "a"), rec(-1, "a")},
		{rec(1, "a c", v(0), v(1)), rec(0, "a b c", integer, v(0), typ.Fn(v(0), v(1)))},
		{sum(1, "a"), sum(0, "a b", integer, v(0))},
		{rec(3, "b", rec(1, "")), rec(4, "a b c", v(1), rec(0, "b", v(0)), rec(1, "z"))},
		{rec(7, "a", v(7)), rec(7, "a", v(7))},
		{rec(-1, "b"), rec(-1, "b")},
	} {
		got, err := typ.Put(c.t, types, rows)
		if err != nil || !typ.Same(got, c.want) || !typ.May(got) {
			t.Error(i, typ.Text(got), err)
		}
	}
}

// P10.2
func TestPutRefuses(t *testing.T) {
	big := deep(api.MaxTypes - 2)
	wide := rec(-1, "x y", big, integer)
	for i, c := range []struct {
		t           tp
		types, rows map[int]tp
		err         error
	}{
		{tp{}, nil, nil, api.ErrArg},
		{deep(api.MaxTypes + 1), nil, nil, api.ErrArg},
		{integer, map[int]tp{5: {}}, nil, api.ErrArg},
		{integer, nil, map[int]tp{5: rec(-2, "")}, api.ErrArg},
		{integer, nil, map[int]tp{5: integer}, api.ErrArg},
		{integer, nil, map[int]tp{5: sum(-1, "")}, api.ErrArg},
		{rec(5, "a"), nil, map[int]tp{5: rec(-1, "a"), 6: sum(-1, "")}, api.ErrArg},
		{typ.Fn(typ.Var(0), integer), map[int]tp{0: big}, nil, nil},
		{typ.Fn(typ.Var(0), ref(integer)), map[int]tp{0: big}, nil, api.ErrLimit},
		{rec(0, ""), nil, map[int]tp{0: wide}, nil},
		{rec(0, "a"), nil, map[int]tp{0: wide}, api.ErrLimit},
		{rec(0, "x"), nil, map[int]tp{0: wide}, api.ErrLimit},
		{rec(0, "a"), nil, map[int]tp{0: rec(0, "a b")}, api.ErrType},
		{ref(rec(-1, "q", sum(0, "a b"))), nil, map[int]tp{0: rec(0, "b")}, api.ErrType},
		{rec(1, "a"), nil, map[int]tp{0: rec(0, "a b")}, nil},
	} {
		got, err := typ.Put(c.t, c.types, c.rows)
		if err != c.err || err != nil && !typ.Same(got, tp{}) {
			t.Error(i, err, c.err)
		}
	}
}

// random is a type with few variables.
func random(r *samples.Source, levels int) tp {
	if levels <= 1 {
		return samples.Pick(r, integer, text, typ.Var(r.Below(4)), rec(r.Below(4)-1, ""))
	}
	next := func() tp { return random(r, levels-1) }
	switch r.Below(4) {
	case 0:
		return typ.Fn(next(), next())
	case 1:
		return ref(next())
	case 2:
		return rec(r.Below(4)-1, "a b", next(), next())
	}
	return sum(r.Below(4)-1, "A", next())
}

// P10.4
func TestFollows(t *testing.T) {
	r := samples.New(4)
	for i := range 2000 {
		a := random(r, 1+i%6)
		if got, err := typ.Put(a, nil, nil); err != nil || !typ.Same(got, a) {
			t.Fatal(typ.Text(a), err)
		}
		types, rows := map[int]tp{}, map[int]tp{}
		for n := range 4 {
			types[n], rows[n] = typ.Var(7*n+3), rec(100-n, "")
		}
		b, err := typ.Put(a, types, rows)
		if err != nil || typ.Text(a) != typ.Text(b) {
			t.Fatal(typ.Text(a), typ.Text(b), err)
		}
	}
}

// P10.3, R2
func TestNothingIsShared(t *testing.T) {
	labels, l := []string{"a"}, []tp{ref(typ.Var(0))}
	a := typ.Row(api.TRec, labels, l, 1)
	b := typ.Fn(a, a)
	put, _ := typ.Put(b, map[int]tp{0: a}, map[int]tp{1: rec(-1, "b", a)})
	b.L[0].L[0].L[0].N = 77
	put.L[0].Labels[0] = "z"
	put.L[0].L[1].L[0].Kind = 9
	put.L[1].L[0].L[0].L[0].L[0].N = 8
	if typ.Text(a) != "{a : ref '0 | ..0}" || a.L[0].L[0].N != 0 || labels[0] != "a" || l[0].L[0].N != 0 {
		t.Error(a, labels, l)
	}
	if got := typ.Text(b.L[1]); got != "{a : ref '0 | ..0}" || b.L[1].L[0].L[0].N != 0 {
		t.Error(got)
	}
	types, _ := typ.Vars(a)
	types[0] = 5
	if again, _ := typ.Vars(a); again[0] != 0 {
		t.Error(again)
	}
}
