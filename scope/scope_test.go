package scope_test

import (
	"errors"
	"slices"
	"strconv"
	"strings"
	"testing"

	"bushel/api"
	"bushel/parse"
	"bushel/samples"
	"bushel/scope"
	"bushel/show"
	"bushel/syn"
)

type expr = api.Expr

func read(t *testing.T, s string) expr {
	t.Helper()
	e, err := parse.Program([]byte(s))
	if err != nil {
		t.Fatalf("%q: %v", s, err)
	}
	return e
}

// P8.1
func TestCheck(t *testing.T) {
	for _, c := range []struct {
		text string
		at   int // of the first free variable, or -1
	}{
		{"1", -1},
		{"x", 0},
		{"fn x -> x", -1},
		{"fn x -> y", 8},
		{"let x = x in x", 8},
		{"let x = 1 in x", -1},
		{"let rec f x = f x in f", -1},
		{"let rec f x = f x in x", 21},
		{"let rec f f = f in f", -1},
		{"match y with | A x -> x end", 6},
		{"match 1 with | A x -> x | B y -> y | z -> z end", -1},
		{"match 1 with | A x -> y | B y -> x end", 22},
		{"match 1 with | B y -> x | A x -> y end", 33},
		{"match 1 with | A x -> z | z -> x end", 22},
		{"match 1 with | A x -> 1 | z -> x end", 31},
		{"(fn x -> x) x", 12},
		{"{x = x}", 5},
		{"{b = y, a = x}", 12},
		{"{r with a = q}", 12},
		{"(fn x -> fn y -> x y) (fn z -> w)", 31},
		{"if 1 then fn x -> x else x", 25},
	} {
		err := scope.Check(read(t, c.text))
		if c.at < 0 {
			if err != nil {
				t.Errorf("%q: %v", c.text, err)
			}
			continue
		}
		var s *api.Spot
		if !errors.As(err, &s) || *s != (api.Spot{At: c.at, Err: api.ErrScope}) {
			t.Errorf("%q: %v", c.text, err)
		}
	}
}

// P8.2: the text with numbers, and the old names.
func TestNumber(t *testing.T) {
	for _, c := range [][3]string{
		{"1", "1", ""},
		{"x", "x", ""},
		{"fn a -> fn a -> a", "fn v0 -> fn v1 -> v1", "a a"},
		{"(fn a -> a) (fn b -> b c)", "(fn v0 -> v0) (fn v1 -> v1 c)", "a b"},
		{"let x = fn y -> x in fn z -> x", "let v0 = fn v1 -> x in fn v2 -> v0", "x y z"},
		{"let rec f x = f x in f x", "let rec v0 v1 = v0 v1 in v0 x", "f x"},
		{"let rec f f = f in f", "let rec v0 v1 = v1 in v0", "f f"},
		{"match fn q -> q with | A x -> x | B x -> x | x -> x end", "match fn v3 -> v3 with | A v0 -> v0 | B v1 -> v1 | v2 -> v2 end", "x x x q"},
		{"match x with | A x -> y | y -> x end", "match x with | A v0 -> y | v1 -> x end", "x y"},
		{"match x with | x -> fn x -> x end", "match x with | v0 -> fn v1 -> v1 end", "x x"},
		{"{x = fn x -> x.x, a = fn x -> x\\x}", "{a = fn v0 -> v0\\x, x = fn v1 -> v1.x}", "x x"},
		{"fn a -> {a with a = fn b -> {b = a | b}}", "fn v0 -> {v0 with a = fn v1 -> {b = v0 | v1}}", "a b"},
		{"fn v1 -> fn v0 -> v1 v0 v2", "fn v0 -> fn v1 -> (v0 v1) v2", "v1 v0"},
	} {
		e, old, err := scope.Number(read(t, c[0]))
		if err != nil {
			t.Fatal(err)
		}
		want, _ := show.Text(read(t, c[1]))
		if got, _ := show.Text(e); got != want || strings.Join(old, " ") != c[2] {
			t.Errorf("%q: %q, not %q, %v", c[0], got, want, old)
		}
	}
}

// P8.1, P8.2, P1: what may not be.
func TestRefuses(t *testing.T) {
	for _, e := range []expr{{}, {Kind: api.Fn, S: "x"}, {Kind: api.Var, S: "X"}, {Kind: api.Match}, {Kind: api.Rec, S: "f", L: []expr{{}, {}}},
		{Kind: api.Match, Labels: []string{"A"}, L: []expr{{Kind: api.Int}, {Kind: api.Int}}}} {
		if err := scope.Check(e); err != api.ErrArg {
			t.Error(err)
		}
		if got, old, err := scope.Number(e); err != api.ErrArg || len(old) != 0 || !syn.Same(got, expr{}) {
			t.Error(got, old, err)
		}
	}
}

// places lists all At.
func places(e expr) []int {
	l := []int{e.At}
	for _, part := range e.L {
		l = append(l, places(part)...)
	}
	return l
}

// binders lists the names that are bound, in order.
func binders(e expr) []string {
	var l []string
	switch e.Kind {
	case api.Fn, api.Let:
		l = append(l, e.S)
	case api.Rec:
		l = append(l, e.S, e.T)
	case api.Match:
		l = append(l, e.Names...)
		if e.T != "" {
			l = append(l, e.T)
		}
	}
	for _, part := range e.L {
		l = append(l, binders(part)...)
	}
	return l
}

// P8.2, P8.4
func TestNumbered(t *testing.T) {
	r := samples.New(11)
	for i := range 3000 {
		e := r.Any(1 + i%8)
		got, old, err := scope.Number(e)
		if err != nil {
			t.Fatal(err)
		}
		names := binders(got)
		if !slices.Equal(old, binders(e)) || !slices.Equal(places(e), places(got)) || len(names) != len(old) {
			t.Fatal(e, got)
		}
		for j, name := range names {
			if name != "v"+strconv.Itoa(j) {
				t.Fatal(names)
			}
		}
		if !slices.Equal(syn.Free(e), syn.Free(got)) || (scope.Check(e) == nil) != (len(syn.Free(e)) == 0) || (scope.Check(e) == nil) != (scope.Check(got) == nil) {
			t.Fatal(e, got)
		}
		if again, _, _ := scope.Number(got); !syn.Same(again, got) {
			t.Fatal(again, got)
		}
	}
}

// P8.3, R2
func TestNothingIsShared(t *testing.T) {
	e := read(t, "match x with | A a -> {b = a} | B c -> 1 end")
	was := read(t, "match x with | A a -> {b = a} | B c -> 1 end")
	got, old, _ := scope.Number(e)
	got.Labels[0], got.Names[0], got.L[1].Labels[0], got.L[0].S, old[0] = "X", "X", "X", "X", "X"
	if !syn.Same(e, was) {
		t.Error(e)
	}
	if again, old, _ := scope.Number(e); again.Names[0] != "v0" || old[0] != "a" {
		t.Error(again, old)
	}
}
