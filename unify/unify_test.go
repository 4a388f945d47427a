package unify_test

import (
	"math"
	"slices"
	"strings"
	"testing"

	"bushel/api"
	"bushel/samples"
	"bushel/typ"
	"bushel/unify"
)

type tp = api.Type

var (
	integer = tp{Kind: api.TInt, Tail: -1}
	text    = tp{Kind: api.TText, Tail: -1}
	v       = typ.Var
	fn      = typ.Fn
)

func ref(t tp) tp { return tp{Kind: api.TRef, L: []tp{t}, Tail: -1} }

func row(kind, tail int, labels string, l ...tp) tp {
	names := strings.Fields(labels)
	for len(l) < len(names) {
		l = append(l, integer)
	}
	return typ.Row(kind, names, l, tail)
}

// rec and sum have integers, where nothing else is told.
func rec(tail int, labels string, l ...tp) tp { return row(api.TRec, tail, labels, l...) }
func sum(tail int, labels string, l ...tp) tp { return row(api.TSum, tail, labels, l...) }

// solver has so many variables of each sort.
func solver(types, rows int) *unify.Solver {
	s := unify.New()
	for range types {
		s.Type()
	}
	for range rows {
		s.Row()
	}
	return s
}

func now(t *testing.T, s *unify.Solver, a tp) tp {
	t.Helper()
	got, err := s.Now(a)
	if err != nil {
		t.Fatal(typ.Text(a), err)
	}
	return got
}

// P11.1
func TestFresh(t *testing.T) {
	s := unify.New()
	seen := map[int]bool{}
	for range 5 {
		a := s.Type()
		if a.Kind != api.TVar || !typ.May(a) || seen[a.N] {
			t.Error(a)
		}
		seen[a.N] = true
	}
	seen = map[int]bool{}
	for range 5 {
		n := s.Row()
		if n < 0 || seen[n] || len(s.Lacks(n)) > 0 {
			t.Error(n)
		}
		seen[n] = true
	}
	if typ.Text(now(t, s, fn(v(0), v(1)))) != "'0 -> '1" {
		t.Error("fresh variables are one")
	}
}

// P11.2
func TestLack(t *testing.T) {
	s := solver(0, 3)
	for _, tail := range []int{-1, 3, math.MaxInt, math.MinInt} {
		if err := s.Lack(tail, nil); err != api.ErrArg {
			t.Error(tail, err)
		}
		if l := s.Lacks(tail); len(l) > 0 {
			t.Error(tail, l)
		}
		if err := s.Close(tail); err != api.ErrArg {
			t.Error(tail, err)
		}
	}
	for _, l := range [][]string{{"b", "a"}, {"a", "a"}} {
		if err := s.Lack(0, l); err != api.ErrArg {
			t.Error(l, err)
		}
	}
	for _, l := range [][]string{{"b"}, nil, {"a", "b"}, {"d"}} {
		if err := s.Lack(0, l); err != nil {
			t.Error(l, err)
		}
	}
	if l := s.Lacks(0); !slices.Equal(l, []string{"a", "b", "d"}) {
		t.Error(l)
	}
	// 0 becomes {c, e | ..3}, and then 3 {f}.
	if err := s.Unify(rec(0, ""), rec(1, "c e")); err != nil {
		t.Fatal(err)
	}
	if err := s.Lack(0, []string{"b", "e"}); err != api.ErrType {
		t.Error(err)
	}
	if err := s.Lack(0, []string{"x"}); err != nil {
		t.Error(err)
	}
	end := now(t, s, rec(0, "")).Tail
	if l := s.Lacks(end); !slices.Equal(l, []string{"a", "b", "c", "d", "e", "x"}) || len(s.Lacks(0)) > 0 {
		t.Error(l, s.Lacks(0))
	}
	if err := s.Unify(rec(0, ""), rec(-1, "c e f")); err != nil {
		t.Fatal(err)
	}
	if err := s.Lack(0, []string{"f"}); err != api.ErrType {
		t.Error(err)
	}
	if err := s.Lack(0, []string{"y"}); err != nil {
		t.Error(err)
	}
}

// P11.2
func TestClose(t *testing.T) {
	s := solver(0, 2)
	s.Lack(0, []string{"a"})
	if err := s.Close(0); err != nil {
		t.Error(err)
	}
	if err := s.Close(0); err != api.ErrArg {
		t.Error(err)
	}
	if a := now(t, s, rec(0, "b")); !typ.Same(a, rec(-1, "b")) || len(s.Lacks(0)) > 0 {
		t.Error(a)
	}
	if err := s.Unify(rec(1, ""), rec(-1, "a")); err != nil || s.Close(1) != api.ErrArg {
		t.Error(err)
	}
}

// P11.3
func TestNotKnown(t *testing.T) {
	s := solver(2, 2)
	for _, bad := range []tp{{}, v(2), v(-1), rec(2, ""), sum(math.MaxInt, ""), fn(integer, v(9)), rec(-2, ""), {Kind: api.TFn, Tail: -1}} {
		if err := s.Unify(bad, integer); err != api.ErrArg {
			t.Error(bad, err)
		}
		if err := s.Unify(text, bad); err != api.ErrArg {
			t.Error(bad, err)
		}
		if a, err := s.Now(bad); err != api.ErrArg || !typ.Same(a, tp{}) {
			t.Error(bad, a, err)
		}
	}
	// A fresh one of Unify is known from then on.
	if err := s.Unify(rec(0, "a"), rec(1, "b")); err != nil {
		t.Fatal(err)
	}
	end := now(t, s, rec(0, "")).Tail
	if err := s.Unify(rec(end, ""), rec(-1, "q")); err != nil || typ.Text(now(t, s, rec(0, "a"))) != "{a : int, b : int, q : int}" {
		t.Error(err)
	}
}

// P11.3: what becomes of both, or that it is an error.
func TestUnify(t *testing.T) {
	for i, c := range []struct {
		a, b tp
		want string
	}{
		{integer, integer, "int"},
		{text, text, "text"},
		{integer, text, ""},
		{integer, v(0), "int"},
		{v(0), v(1), "'0"},
		{v(0), v(0), "'0"},
		{fn(v(0), v(1)), fn(v(1), integer), "int -> int"},
		{fn(v(0), v(0)), fn(integer, text), ""},
		{fn(v(0), integer), ref(v(0)), ""},
		{ref(v(0)), ref(text), "ref text"},
		{ref(v(0)), v(0), ""},
		{fn(v(0), v(1)), fn(v(1), ref(v(0))), ""},
		{fn(v(0), fn(v(1), v(2))), fn(v(1), fn(v(2), fn(v(0), integer))), ""},
		{rec(-1, "a"), rec(-1, "a"), "{a : int}"},
		{rec(-1, ""), rec(-1, ""), "{}"},
		{sum(-1, ""), sum(-1, ""), "<>"},
		{rec(-1, ""), sum(-1, ""), ""},
		{rec(0, ""), sum(0, ""), ""},
		{rec(-1, "a"), rec(-1, "b"), ""},
		{rec(-1, "a"), rec(-1, ""), ""},
		{rec(-1, "a"), integer, ""},
		{rec(0, "a"), rec(1, "b", text), "{a : int, b : text | ..0}"},
		{sum(0, "A"), sum(1, "B", text), "<A : int, B : text | ..0>"},
		{rec(0, ""), rec(-1, "a b"), "{a : int, b : int}"},
		{rec(-1, "a b"), rec(0, "b", v(0)), "{a : int, b : int}"},
		{rec(0, "c"), rec(-1, "a b"), ""},
		{rec(0, "a", v(0)), rec(1, "a", text), "{a : text | ..0}"},
		{rec(0, "a", v(0)), rec(0, "a", text), "{a : text | ..0}"},
		{rec(0, "a"), rec(0, "b"), ""},
		{rec(0, "a"), rec(0, ""), ""},
		{rec(0, ""), rec(0, ""), "{..0}"},
		{rec(0, "a", text), rec(1, "a", integer), ""},
		// One row variable has one row.
		{fn(rec(0, "a"), rec(0, "b")), fn(rec(-1, "a c"), v(0)), "{a : int, c : int} -> {b : int, c : int}"},
		{fn(rec(0, "a"), rec(0, "b")), fn(rec(-1, "a b"), v(0)), ""},
		{fn(rec(0, "a"), sum(0, "b")), fn(rec(-1, "a c", v(0)), sum(1, "b")), "{a : int, c : int} -> <b : int, c : int>"},
		// The Tail lacks the labels of all the rows that it ends.
		{fn(rec(0, "a"), rec(1, "b")), fn(rec(1, ""), v(0)), "{a : int | ..0} -> {a : int, b : int | ..0}"},
		{fn(rec(0, ""), rec(0, "a")), fn(rec(-1, "a"), v(0)), ""},
		{fn(v(0), rec(0, "a")), fn(rec(0, ""), rec(-1, "a b")), "{b : int} -> {a : int, b : int}"},
		// What comes to a Tail doesn't have it.
		{rec(0, "a"), rec(1, "b", rec(0, "")), ""},
		{rec(0, "a", rec(1, "")), rec(1, "b", rec(0, "")), ""},
		{rec(0, "a"), rec(1, "b", fn(rec(1, ""), integer)), "{a : int, b : {a : int | ..0} -> int | ..0}"},
		{rec(0, "a", ref(rec(0, ""))), rec(-1, "a b", v(0)), "{a : ref {b : int}, b : int}"},
		{rec(0, "a", v(0)), rec(-1, "a b", integer, fn(v(0), v(0))), "{a : int, b : int -> int}"},
		{fn(v(0), rec(0, "a")), fn(rec(0, ""), rec(1, "b", v(0))), ""},
		{rec(0, "a", v(0)), v(0), ""},
		{rec(-1, "a", rec(0, "x")), rec(1, "a", rec(0, "y")), ""},
		{rec(-1, "a", rec(0, "x")), rec(1, "a", rec(2, "y")), "{a : {x : int, y : int | ..0}}"},
	} {
		for turn, p := range [][2]tp{{c.a, c.b}, {c.b, c.a}} {
			s := solver(3, 3)
			err := s.Unify(p[0], p[1])
			if c.want == "" {
				if err != api.ErrType {
					t.Error(i, turn, err)
				}
				continue
			}
			if err != nil {
				t.Error(i, turn, err)
				continue
			}
			a, b := now(t, s, p[0]), now(t, s, p[1])
			if typ.Text(a) != c.want || !typ.Same(a, b) {
				t.Error(i, turn, typ.Text(a), typ.Text(b), "not", c.want)
			}
			if err := s.Unify(p[1], p[0]); err != nil || !typ.Same(now(t, s, p[0]), a) {
				t.Error(i, turn, "again", err)
			}
		}
	}
}

// P11.3: each row lets its Tail lack its labels, ahead of all; a fresh Tail lacks what both lacked, and its row's labels.
func TestUnifyLacks(t *testing.T) {
	s := solver(1, 3)
	s.Lack(0, []string{"p"})
	s.Lack(1, []string{"q"})
	if err := s.Unify(v(0), fn(rec(0, "a", rec(2, "z")), integer)); err != nil {
		t.Fatal(err)
	}
	if l := s.Lacks(0); !slices.Equal(l, []string{"a", "p"}) {
		t.Error(l)
	}
	if l := s.Lacks(2); !slices.Equal(l, []string{"z"}) {
		t.Error(l)
	}
	if err := s.Unify(rec(0, "a", rec(2, "z")), rec(1, "b")); err != nil {
		t.Fatal(err)
	}
	end := now(t, s, rec(0, "")).Tail
	if l := s.Lacks(end); !slices.Equal(l, []string{"a", "b", "p", "q"}) {
		t.Error(l)
	}
	if err := s.Unify(rec(0, ""), rec(-1, "b q")); err != api.ErrType {
		t.Error(err)
	}
	s = solver(1, 2)
	s.Lack(0, []string{"b"})
	if err := s.Unify(rec(0, "a"), rec(1, "b")); err != api.ErrType {
		t.Error(err)
	}
	s = solver(1, 2)
	if err := s.Unify(rec(0, ""), rec(-1, "b")); err != nil {
		t.Error(err)
	}
	if err := s.Unify(integer, rec(0, "b")); err != api.ErrType {
		t.Error(err)
	}
	if err := s.Unify(v(0), fn(integer, rec(0, "b"))); err != api.ErrType {
		t.Error("a label that stands twice", err)
	}
}

// doubled lets one variable stand for a type of 2^levels leaves, and tells it.
func doubled(t *testing.T, s *unify.Solver, levels int, leaf tp) tp {
	t.Helper()
	for range levels {
		next := s.Type()
		if err := s.Unify(next, fn(leaf, leaf)); err != nil {
			t.Fatal(err)
		}
		leaf = next
	}
	return leaf
}

// P11.3: limits.
func TestUnifyLimits(t *testing.T) {
	s := unify.New()
	if err := s.Unify(doubled(t, s, 15, s.Type()), doubled(t, s, 15, integer)); err != nil {
		t.Error(err)
	}
	s = unify.New()
	if err := s.Unify(doubled(t, s, 40, s.Type()), doubled(t, s, 40, integer)); err != api.ErrLimit {
		t.Error(err)
	}
	// That there is no type is told first.
	s = unify.New()
	a, b := doubled(t, s, 40, s.Type()), doubled(t, s, 40, s.Type())
	if err := s.Unify(fn(a, integer), fn(b, text)); err != api.ErrType {
		t.Error(err)
	}
	s = solver(api.MaxVars-3, 2)
	if err := s.Unify(rec(0, "a"), rec(1, "b")); err != nil {
		t.Error(err)
	}
	s = solver(api.MaxVars-2, 2)
	if err := s.Unify(rec(0, "a"), rec(1, "b")); err != api.ErrLimit {
		t.Error(err)
	}
}

// P11.3: a long chain of variables, and of rows.
func TestLongChains(t *testing.T) {
	s := solver(20000, 0)
	for i := range 19999 {
		if err := s.Unify(v(i), v(i+1)); err != nil {
			t.Fatal(err)
		}
	}
	if err := s.Unify(v(0), integer); err != nil || !typ.Same(now(t, s, v(7)), integer) {
		t.Error(err)
	}
	s = solver(0, 20000)
	for i := range 19999 {
		if err := s.Unify(rec(i, ""), rec(i+1, "")); err != nil {
			t.Fatal(err)
		}
	}
	if err := s.Unify(rec(0, ""), rec(-1, "a")); err != nil || !typ.Same(now(t, s, rec(19999, "")), rec(-1, "a")) {
		t.Error(err)
	}
	s = solver(20000, 0)
	for i := range 19999 {
		if err := s.Unify(v(i), ref(v(i+1))); err != nil {
			t.Fatal(err)
		}
	}
	if err := s.Unify(v(19999), v(0)); err != api.ErrType {
		t.Error(err)
	}
	if _, err := s.Now(v(0)); err != api.ErrLimit {
		t.Error(err)
	}
}

// P11.3
func TestNow(t *testing.T) {
	s := solver(2, 2)
	if err := s.Unify(doubled(t, s, 10, integer), v(0)); err != nil {
		t.Fatal(err)
	}
	// 2047 nodes.
	if a := now(t, s, v(0)); !typ.May(a) {
		t.Error("Now tells what may not be")
	}
	deep := integer
	for range 1951 {
		deep = ref(deep)
	}
	if a, err := s.Now(fn(v(0), deep)); err != nil || !typ.May(a) {
		t.Error("4000 nodes", err)
	}
	if a, err := s.Now(fn(v(0), ref(deep))); err != api.ErrLimit || !typ.Same(a, tp{}) {
		t.Error("4001 nodes", err)
	}
	if err := s.Unify(rec(0, ""), rec(1, "b", ref(v(1)))); err != nil {
		t.Fatal(err)
	}
	if a := now(t, s, rec(0, "a c")); !typ.Same(a, typ.Row(api.TRec, []string{"a", "b", "c"}, []tp{integer, ref(v(1)), integer}, a.Tail)) {
		t.Error(a)
	}
	if a, err := s.Now(fn(integer, sum(0, "a b"))); err != api.ErrType || !typ.Same(a, tp{}) {
		t.Error(a, err)
	}
	if a, err := s.Now(fn(fn(v(0), v(0)), rec(0, "b"))); err != api.ErrLimit || !typ.Same(a, tp{}) {
		t.Error(a, err)
	}
}

// P11.4, R2
func TestNothingIsShared(t *testing.T) {
	s := solver(1, 2)
	labels := []string{"z"}
	s.Lack(0, labels)
	labels[0] = "y"
	a := fn(rec(0, "a", v(0)), ref(integer))
	was := fn(rec(0, "a", v(0)), ref(integer))
	b := s.Type()
	if err := s.Unify(a, b); err != nil || !typ.Same(a, was) {
		t.Fatal(err, a)
	}
	a.L[0].Labels[0], a.L[1].L[0].Kind = "changed", api.TText
	got := now(t, s, b)
	if !typ.Same(got, was) {
		t.Error(got)
	}
	got.L[0].Labels[0], got.L[1].L[0].Kind = "changed", api.TText
	l := s.Lacks(0)
	if !slices.Equal(l, []string{"a", "z"}) {
		t.Error(l)
	}
	l[0] = "changed"
	if again := now(t, s, b); !typ.Same(again, was) || s.Lacks(0)[0] != "a" {
		t.Error(again)
	}
}

// P1: behind an error a solver is of no more use, but its calls end.
func TestBehindAnError(t *testing.T) {
	r := samples.New(9)
	for range 2000 {
		s := solver(3, 3)
		for range 10 {
			a, b := random(r, 3, 3), random(r, 3, 3)
			s.Unify(a, b)
			s.Now(a)
			s.Lack(r.Below(6), []string{"a"})
			s.Lacks(r.Below(6))
			s.Close(r.Below(8))
		}
	}
}

// random is a type with few variables.
func random(r *samples.Source, levels, vars int) tp {
	if levels <= 1 {
		return samples.Pick(r, integer, text, v(r.Below(vars)), rec(r.Below(vars+1)-1, ""))
	}
	next := func() tp { return random(r, levels-1, vars) }
	switch r.Below(5) {
	case 0:
		return fn(next(), next())
	case 1:
		return sum(r.Below(vars+1)-1, "a", next())
	case 2:
		return rec(r.Below(vars+1)-1, samples.Pick(r, "a", "b"), next())
	case 3:
		return rec(r.Below(vars+1)-1, "a b", next(), next())
	}
	return random(r, 1, vars)
}

// matches tells whether a type without variables is one that another type stands for.
func matches(p, g tp, types, rows map[int]tp) bool {
	if p.Kind == api.TVar {
		was, is := types[p.N]
		types[p.N] = g
		return !is || typ.Same(was, g)
	}
	if p.Kind != g.Kind {
		return false
	}
	if p.Kind != api.TRec && p.Kind != api.TSum {
		for i := range p.L {
			if !matches(p.L[i], g.L[i], types, rows) {
				return false
			}
		}
		return true
	}
	rest := typ.Row(api.TRec, nil, nil, -1)
	met := 0
	for i, l := range g.Labels {
		if j := slices.Index(p.Labels, l); j >= 0 {
			met++
			if !matches(p.L[j], g.L[i], types, rows) {
				return false
			}
			continue
		}
		rest.Labels, rest.L = append(rest.Labels, l), append(rest.L, g.L[i])
	}
	if p.Tail < 0 {
		return met == len(p.L) && len(rest.L) == 0
	}
	was, is := rows[p.Tail]
	rows[p.Tail] = rest
	return met == len(p.L) && (!is || typ.Same(was, rest))
}

// P11.3, T2: random pairs, held against all that few small types make of them.
func TestGreatest(t *testing.T) {
	types := []tp{integer, text, rec(-1, ""), rec(-1, "a"), fn(integer, text), sum(-1, "a")}
	rows := []tp{rec(-1, ""), rec(-1, "a"), rec(-1, "b", text), rec(-1, "a b", text, integer), rec(-1, "b", rec(-1, "a"))}
	r := samples.New(6)
	solved := 0
	for range 600 {
		a, b := random(r, 3, 2), random(r, 3, 2)
		s := solver(2, 2)
		err := s.Unify(a, b)
		var got tp
		if err == nil {
			if got = now(t, s, a); !typ.Same(got, now(t, s, b)) {
				t.Fatal(typ.Text(a), typ.Text(b))
			}
		}
		for i := range len(types) * len(types) * len(rows) * len(rows) {
			x, y, p, q := i%len(types), i/len(types)%len(types), i/len(types)/len(types)%len(rows), i/len(types)/len(types)/len(rows)
			toTypes, toRows := map[int]tp{0: types[x], 1: types[y]}, map[int]tp{0: rows[p], 1: rows[q]}
			one, err1 := typ.Put(a, toTypes, toRows)
			other, err2 := typ.Put(b, toTypes, toRows)
			if err1 != nil || err2 != nil || !typ.Same(one, other) {
				continue
			}
			solved++
			if err != nil || !matches(got, one, map[int]tp{}, map[int]tp{}) {
				t.Fatalf("%v and %v: %v, but %s", a, b, err, typ.Text(one))
			}
		}
	}
	if solved < 300 {
		t.Error(solved)
	}
}
