package infer_test

import (
	"slices"
	"testing"

	"bushel/api"
	"bushel/infer"
	"bushel/parse"
	"bushel/scope"
	"bushel/syn"
	"bushel/typ"
)

// bound is what a name has: a type, or all that it stands for.
type bound struct {
	t      api.Type
	many   bool
	within bool
	needs  []api.Need
}

// checker holds a typed expression against the rules of chapter 12.
type checker struct {
	t     *testing.T
	names map[string]*bound
	told  map[int]bool // row variables that names are told of, where it is looked
}

func check(t *testing.T, d api.Deriv) {
	t.Helper()
	c := checker{t, map[string]*bound{}, map[int]bool{}}
	c.whole(d)
}

func (c *checker) must(is bool, d api.Deriv, what string) {
	c.t.Helper()
	if !is {
		c.t.Fatalf("%s: %+v of type %s", what, d.E, typ.Text(d.T))
	}
}

// is holds two types against each other.
func (c *checker) is(d api.Deriv, a, b api.Type) {
	c.t.Helper()
	c.must(typ.Same(a, b), d, typ.Text(a)+" is not "+typ.Text(b))
}

func plain(kind int, l ...api.Type) api.Type { return api.Type{Kind: kind, L: l, Tail: -1} }

var (
	integer = plain(api.TInt)
	text    = plain(api.TText)
	unit    = typ.Row(api.TRec, nil, nil, -1)
)

// rows tells the row variables of a type.
func rows(t api.Type) []int {
	_, l := typ.Vars(t)
	return l
}

func (c *checker) whole(d api.Deriv) {
	c.must(typ.May(d.T), d, "what may not be")
	c.must(len(d.E.L) == 0, d, "parts twice")
	c.must(len(d.L) == syn.Parts(d.E.Kind, len(d.E.Labels), d.E.T != ""), d, "parts")
	for _, r := range rows(d.T) {
		c.must(c.told[r], d, "a row that is left")
	}
	c.must((d.Row.Kind != 0) == slices.Contains([]int{api.Sel, api.Cut, api.Upd, api.Ext, api.Tag, api.Match}, d.E.Kind), d, "a Row")
	c.must(len(d.Needs) == 0 || d.E.Kind == api.Let || d.E.Kind == api.Rec, d, "Needs")
	c.must(len(d.Args) == 0 || d.E.Kind == api.Var, d, "Args")
	switch d.E.Kind {
	case api.Let, api.Rec:
		c.many(d)
		return
	case api.Fn:
		c.must(d.T.Kind == api.TFn, d, "a function")
		c.names[d.E.S] = &bound{t: d.T.L[0]}
		c.is(d, d.T.L[1], d.L[0].T)
	case api.Match:
		c.match(d)
	case api.Var:
		c.use(d)
	default:
		c.simple(d)
	}
	for _, part := range d.L {
		c.whole(part)
	}
}

// many looks at a Let, or a Rec.
func (c *checker) many(d api.Deriv) {
	b := &bound{t: d.L[0].T, needs: d.Needs}
	b.many = d.E.Kind == api.Rec || isValue(d.L[0])
	c.names[d.E.S] = b
	c.must(b.many || len(d.Needs) == 0, d, "Needs of what is no value")
	for i, n := range d.Needs {
		if !c.told[n.Row] {
			c.told[n.Row] = true
			defer delete(c.told, n.Row)
		}
		c.must(i == 0 || d.Needs[i-1].Row != n.Row || d.Needs[i-1].Label < n.Label, d, "Needs rise")
	}
	if d.E.Kind == api.Rec {
		b.within = true
		// The argument's type is told where the name stands.
		b.t = api.Type{}
		c.names[d.E.T] = &bound{}
		c.whole(d.L[0])
		arg, of := c.names[d.E.T], b.t
		if of.Kind == 0 {
			of = typ.Fn(typ.Var(1<<30), d.L[0].T)
			if arg.t.Kind != 0 {
				of = typ.Fn(arg.t, d.L[0].T)
			}
		}
		c.must(of.Kind == api.TFn && (arg.t.Kind == 0 || typ.Same(arg.t, of.L[0])), d, "a Rec's argument")
		c.is(d, of.L[1], d.L[0].T)
		b.t, b.within = of, false
	} else {
		c.whole(d.L[0])
	}
	var l []int
	for _, n := range d.Needs {
		if len(l) == 0 || l[len(l)-1] != n.Row {
			l = append(l, n.Row)
		}
	}
	in := rows(b.t)
	in = slices.DeleteFunc(in, func(r int) bool { return !slices.Contains(l, r) })
	c.must(slices.Equal(in, l), d, "the order of Needs")
	for _, n := range d.Needs {
		delete(c.told, n.Row)
	}
	c.is(d, d.T, d.L[1].T)
	c.whole(d.L[1])
}

func isValue(d api.Deriv) bool {
	switch d.E.Kind {
	case api.Int, api.Text, api.Var, api.Fn:
		return true
	case api.Record, api.Tag:
		return !slices.ContainsFunc(d.L, func(part api.Deriv) bool { return !isValue(part) })
	}
	return false
}

// use looks at a Var.
func (c *checker) use(d api.Deriv) {
	b := c.names[d.E.S]
	c.must(b != nil, d, "bound")
	if b.t.Kind == 0 {
		b.t = d.T
	}
	if b.within {
		c.is(d, d.T, b.t)
		c.must(len(d.Args) == len(b.needs), d, "Args")
		for i, n := range b.needs {
			c.must(d.Args[i] == api.Evid{Row: n.Row, Label: n.Label}, d, "Args are the Needs")
		}
		return
	}
	if !b.many {
		c.is(d, d.T, b.t)
		c.must(len(d.Args) == 0, d, "Args")
		return
	}
	types, rests := map[int]api.Type{}, map[int]api.Type{}
	c.must(stands(b.t, d.T, types, rests), d, typ.Text(b.t))
	c.must(len(d.Args) == len(b.needs), d, "Args")
	for i, n := range b.needs {
		rest, is := rests[n.Row]
		c.must(is, d, "a row")
		want := api.Evid{Row: -1}
		for _, l := range rest.Labels {
			c.must(l != n.Label, d, "a label that the row lacks")
			if l < n.Label {
				want.N++
			}
		}
		if rest.Tail >= 0 {
			want.Row, want.Label = rest.Tail, n.Label
		}
		c.must(d.Args[i] == want, d, "an offset")
	}
}

// stands tells whether one type stands for another one; rows that nothing is told of were closed in it, and may have more.
func stands(p, g api.Type, types, rests map[int]api.Type) bool {
	if p.Kind == api.TVar {
		was, is := types[p.N]
		types[p.N] = g
		return !is || typ.Same(was, g)
	}
	if p.Kind != g.Kind {
		return false
	}
	if p.Kind != api.TRec && p.Kind != api.TSum {
		for i := range p.L {
			if !stands(p.L[i], g.L[i], types, rests) {
				return false
			}
		}
		return true
	}
	rest := typ.Row(api.TRec, nil, nil, g.Tail)
	for i, l := range g.Labels {
		if j := slices.Index(p.Labels, l); j < 0 {
			rest.Labels, rest.L = append(rest.Labels, l), append(rest.L, g.L[i])
		} else if !stands(p.L[j], g.L[i], types, rests) {
			return false
		}
	}
	was, is := rests[p.Tail]
	rests[p.Tail] = rest
	return len(g.Labels)-len(rest.Labels) == len(p.Labels) && (p.Tail < 0 || !is || typ.Same(was, rest))
}

func (c *checker) match(d api.Deriv) {
	from := d.L[0].T
	c.is(d, d.Row, from)
	c.must(from.Kind == api.TSum, d, "a variant")
	rest := typ.Row(api.TSum, nil, nil, from.Tail)
	met := 0
	for i, l := range from.Labels {
		if j := slices.Index(d.E.Labels, l); j >= 0 {
			met++
			c.names[d.E.Names[j]] = &bound{t: from.L[i]}
		} else {
			rest.Labels, rest.L = append(rest.Labels, l), append(rest.L, from.L[i])
		}
	}
	c.must(met == len(d.E.Labels), d, "tags")
	if d.E.T == "" {
		c.must(len(rest.L) == 0 && rest.Tail < 0, d, "the rest")
	} else {
		c.names[d.E.T] = &bound{t: rest}
	}
	for _, part := range d.L[1:] {
		c.is(d, part.T, d.T)
	}
}

// part is a label's part in a row, and what is left of that.
func (c *checker) part(d api.Deriv, row api.Type, kind int) (api.Type, api.Type) {
	i := slices.Index(row.Labels, d.E.S)
	c.must(row.Kind == kind && i >= 0, d, "a label")
	return row.L[i], typ.Row(kind, slices.Delete(slices.Clone(row.Labels), i, i+1), slices.Delete(slices.Clone(row.L), i, i+1), row.Tail)
}

func (c *checker) simple(d api.Deriv) {
	t := func(i int) api.Type { return d.L[i].T }
	switch d.E.Kind {
	case api.Int:
		c.is(d, d.T, integer)
	case api.Text, api.Read:
		c.is(d, d.T, text)
	case api.App:
		c.is(d, t(0), typ.Fn(t(1), d.T))
	case api.Record:
		l := []api.Type{}
		for i := range d.L {
			l = append(l, t(i))
		}
		c.is(d, d.T, typ.Row(api.TRec, d.E.Labels, l, -1))
	case api.Sel:
		a, _ := c.part(d, t(0), api.TRec)
		c.is(d, d.T, a)
		c.is(d, d.Row, t(0))
	case api.Ext:
		a, r := c.part(d, d.T, api.TRec)
		c.is(d, t(0), a)
		c.is(d, t(1), r)
		c.is(d, d.Row, d.T)
	case api.Cut:
		_, r := c.part(d, t(0), api.TRec)
		c.is(d, d.T, r)
		c.is(d, d.Row, t(0))
	case api.Upd:
		a, r := c.part(d, d.T, api.TRec)
		_, r2 := c.part(d, t(1), api.TRec)
		c.is(d, t(0), a)
		c.is(d, r, r2)
		c.is(d, d.Row, t(1))
	case api.Tag:
		a, _ := c.part(d, d.T, api.TSum)
		c.is(d, t(0), a)
		c.is(d, d.Row, d.T)
	default:
		c.more(d, t)
	}
}

func (c *checker) more(d api.Deriv, t func(i int) api.Type) {
	switch d.E.Kind {
	case api.If:
		c.is(d, t(0), integer)
		c.is(d, t(1), d.T)
		c.is(d, t(2), d.T)
	case api.Op:
		left, right, result := integer, integer, integer
		if d.E.S == "^" {
			left, right, result = text, text, text
		}
		if d.E.S == "#" {
			left = text
		}
		c.is(d, t(0), left)
		c.is(d, t(1), right)
		c.is(d, d.T, result)
	case api.Ref:
		c.is(d, d.T, plain(api.TRef, t(0)))
	case api.Get:
		c.is(d, t(0), plain(api.TRef, d.T))
	case api.Set:
		c.is(d, t(0), plain(api.TRef, t(1)))
		c.is(d, d.T, unit)
	case api.Print:
		c.is(d, t(0), text)
		c.is(d, d.T, unit)
	case api.Show:
		c.is(d, t(0), integer)
		c.is(d, d.T, text)
	default:
		c.must(false, d, "a kind")
	}
}

// whole2 is an expression with its parts again.
func whole2(d api.Deriv) api.Expr {
	e := d.E
	for _, part := range d.L {
		e.L = append(e.L, whole2(part))
	}
	return e
}

// P12.2: with numbers, and where each part stands.
func TestInferNumbers(t *testing.T) {
	for _, c := range typed {
		e := read(t, c[0])
		d, err := infer.Infer(e)
		if err != nil {
			continue
		}
		check(t, d)
		want, _, _ := scope.Number(e)
		got := whole2(d)
		if !syn.Same(got, want) || !slices.Equal(places(got), places(want)) {
			t.Errorf("%s: %v", c[0], got)
		}
	}
}

// at goes down to a part.
func at(d api.Deriv, path ...int) api.Deriv {
	for _, i := range path {
		d = d.L[i]
	}
	return d
}

func typing(t *testing.T, s string) api.Deriv {
	t.Helper()
	e, err := parse.Program([]byte(s))
	if err != nil {
		t.Fatal(err)
	}
	d, err := infer.Infer(e)
	if err != nil {
		t.Fatal(err)
	}
	check(t, d)
	return d
}

// P12.2: what a Let is told, and what its name is.
func TestNeeds(t *testing.T) {
	d := typing(t, `let f = fn r -> r.b + r.d in f {a = 1, b = 2, c = 3, d = 4}`)
	r := at(d, 0).T.L[0].Tail
	if !slices.Equal(d.Needs, []api.Need{{Row: r, Label: "b"}, {Row: r, Label: "d"}}) || r < 0 {
		t.Error(d.Needs)
	}
	if args := at(d, 1, 0).Args; !slices.Equal(args, []api.Evid{{N: 1, Row: -1}, {N: 2, Row: -1}}) {
		t.Error(args)
	}
	// Two rows, in the order of the type; what one tells the other.
	d = typing(t, `let f = fn r -> fn s -> {x = s.b, y = {r with a = 1}} in let g = fn q -> f {a = 1, z = 2} {a = 0 | q} in g {b = "t", c = 2}`)
	of := at(d, 0).T
	r, s := of.L[0].Tail, of.L[1].L[0].Tail
	if !slices.Equal(d.Needs, []api.Need{{Row: r, Label: "a"}, {Row: s, Label: "b"}}) {
		t.Error(d.Needs)
	}
	g := at(d, 1)
	q := at(g, 0).T.L[0].Tail
	if !slices.Equal(g.Needs, []api.Need{{Row: q, Label: "a"}, {Row: q, Label: "b"}}) {
		t.Error(g.Needs)
	}
	if args := at(g, 0, 0, 0, 0).Args; !slices.Equal(args, []api.Evid{{N: 0, Row: -1}, {N: 1, Row: q, Label: "b"}}) {
		t.Error(args)
	}
	if args := at(g, 1, 0).Args; !slices.Equal(args, []api.Evid{{N: 0, Row: -1}, {N: 0, Row: -1}}) {
		t.Error(args)
	}
}

// P12.2: a Rec's own name is told what it is told itself.
func TestNeedsOfRec(t *testing.T) {
	d := typing(t, `let rec f r = if r.n then f {r with n = r.n - 1} else r.z in f {a = 1, n = 2, z = "s"}`)
	tail := at(d, 0, 0, 0).T.Tail
	if !slices.Equal(d.Needs, []api.Need{{Row: tail, Label: "n"}, {Row: tail, Label: "z"}}) || tail < 0 {
		t.Error(d.Needs, tail)
	}
	if args := at(d, 0, 1, 0).Args; !slices.Equal(args, []api.Evid{{Row: tail, Label: "n"}, {Row: tail, Label: "z"}}) {
		t.Error(args)
	}
	if args := at(d, 1, 0).Args; !slices.Equal(args, []api.Evid{{N: 1, Row: -1}, {N: 1, Row: -1}}) {
		t.Error(args)
	}
}

// P12.2: rows that nothing is told of are closed.
func TestClosedRows(t *testing.T) {
	for _, c := range [][2]string{
		{`fn r -> r.a`, `{a : '0} -> '0`},
		{`A 1`, `<A : int>`},
		{`fn v -> match v with | z -> z end`, `<> -> <>`},
		{`let f = fn r -> r.a in f`, `{a : '0} -> '0`},
		{`fn r -> {a = 1 | r}`, `{} -> {a : int}`},
		{`let x = (fn v -> v) (A 1) in x`, `<A : int>`},
		{`let x = A 1 in x`, `<A : int>`},
	} {
		if got := typ.Text(typing(t, c[0]).T); got != c[1] {
			t.Error(c[0], got)
		}
	}
	// In a Let's own part they stay open, if its name is told of them.
	if d := typing(t, `let f = fn r -> r.a in f {a = 1}`); typ.Text(at(d, 0).T) != `{a : '0 | ..0} -> '0` || len(d.Needs) != 1 {
		t.Error(typ.Text(at(d, 0).T))
	}
	// What is no value is told nothing.
	if d := typing(t, `let f = (fn x -> x) (fn r -> r.a) in f {a = 1, b = 2}`); len(d.Needs) != 0 || typ.Text(at(d, 0).T) != `{a : int, b : int} -> int` {
		t.Error(d.Needs, typ.Text(at(d, 0).T))
	}
	// A row of a name that is bound further out is not told here.
	if d := typing(t, `let g = fn r -> let f = fn x -> r.a in f 1 in g {a = 2}`); len(at(d, 0, 0).Needs) != 0 || len(d.Needs) != 1 {
		t.Error(d.Needs)
	}
}

// P12.3, R2
func TestNothingIsShared(t *testing.T) {
	e := read(t, `let f = fn r -> match r.a with | A x -> {b = x} | B y -> {b = 1} end in f {a = A 1}`)
	was := read(t, `let f = fn r -> match r.a with | A x -> {b = x} | B y -> {b = 1} end in f {a = A 1}`)
	d, err := infer.Infer(e)
	if err != nil {
		t.Fatal(err)
	}
	m := at(d, 0, 0)
	m.E.Labels[0], m.E.Names[0], m.Row.Labels[0], d.Needs[0].Label = "X", "X", "X", "X"
	if at(m, 0).T.Labels[0] != "A" || !syn.Same(e, was) {
		t.Error(at(m, 0).T, e)
	}
	if again, _ := infer.Infer(e); again.Needs[0].Label != "a" || at(again, 0, 0).Row.Labels[0] != "A" {
		t.Error(again)
	}
}
