package samples

import (
	"strconv"

	"bushel/api"
	"bushel/label"
	"bushel/parse"
	"bushel/typ"
)

// Program is a closed expression of at most so many levels, and a type that it has; it may be too great to be a program.
func (r *Source) Program(levels int) (api.Expr, api.Type) {
	t := r.ground(2)
	g := maker{Source: r}
	return g.of(t, levels), t
}

// maker makes expressions of a type, by the names that are bound.
type maker struct {
	*Source
	names []named
	last  int
}

// named is a name, and its type; or the number of the template that it has.
type named struct {
	s        string
	t        api.Type
	template int
}

func plain(kind int, l ...api.Type) api.Type { return api.Type{Kind: kind, L: l, Tail: -1} }

func unit() api.Type { return typ.Row(api.TRec, nil, nil, -1) }

// ground is a type without variables.
func (r *Source) ground(levels int) api.Type {
	if levels <= 0 {
		return Pick(r, plain(api.TInt), plain(api.TInt), plain(api.TText), unit())
	}
	switch r.Below(7) {
	case 0, 1:
		return plain(api.TInt)
	case 2:
		return plain(api.TText)
	case 3:
		return r.row(api.TRec, levels, r.set("a", "b", "c", "d"))
	case 4:
		return r.row(api.TSum, levels, label.Join(r.set("A", "B", "C"), []string{Pick(r, "A", "D")}))
	case 5:
		return plain(api.TFn, r.ground(levels-1), r.ground(levels-1))
	}
	return plain(api.TRef, r.ground(levels-1))
}

func (r *Source) row(kind, levels int, labels []string) api.Type {
	var l []api.Type
	for range labels {
		l = append(l, r.ground(levels-1))
	}
	return typ.Row(kind, labels, l, -1)
}

func node(kind int, s string, l ...api.Expr) api.Expr { return api.Expr{Kind: kind, S: s, L: l} }

func variable(s string) api.Expr { return node(api.Var, s) }

// fresh is a name that isn't bound yet, or, now and then, one that is: it is hidden then.
func (g *maker) fresh() string {
	if g.last > 0 && g.Below(8) == 0 {
		return "x" + strconv.Itoa(g.Below(g.last))
	}
	g.last++
	return "x" + strconv.Itoa(g.last-1)
}

// with makes an expression where one more name is bound.
func (g *maker) with(n named, t api.Type, levels int) api.Expr {
	was := g.names
	g.names = nil
	for _, old := range was {
		if old.s != n.s {
			g.names = append(g.names, old)
		}
	}
	g.names = append(g.names, n)
	e := g.of(t, levels)
	g.names = was
	return e
}

// of makes an expression of a type.
func (g *maker) of(t api.Type, levels int) api.Expr {
	if levels <= 0 {
		return g.least(t, 0)
	}
	switch g.Below(16) {
	case 0, 1, 2, 3:
		return g.least(t, levels-1)
	case 4:
		return node(api.If, "", g.of(plain(api.TInt), levels-1), g.of(t, levels-1), g.of(t, levels-1))
	case 5:
		s, of := g.fresh(), g.ground(1)
		return node(api.Let, s, g.of(of, levels-1), g.with(named{s, of, 0}, t, levels-1))
	case 6:
		of := g.ground(1)
		return node(api.App, "", g.of(plain(api.TFn, of, t), levels-1), g.of(of, levels-1))
	case 7:
		row := g.including(api.TRec, "b", t)
		return node(api.Sel, "b", g.of(row, levels-1))
	case 8:
		return g.match(t, levels)
	case 9:
		return node(api.Get, "", g.of(plain(api.TRef, t), levels-1))
	case 10:
		return node(api.Let, "q", g.of(unit(), levels-1), g.of(t, levels-1))
	case 11:
		return g.loop(t, levels)
	case 12, 13:
		return g.many(t, levels)
	}
	return g.use(t, levels)
}

// including is a row of a label, and some others.
func (g *maker) including(kind int, s string, t api.Type) api.Type {
	row := g.row(kind, 1, label.Join(g.set("a", "c", "d"), []string{s}))
	row.L[label.Offset(row.Labels, s)] = t
	return row
}

// least makes an expression by what makes such values, or by a name.
func (g *maker) least(t api.Type, levels int) api.Expr {
	if n := g.Below(len(g.names) + 2); n < len(g.names) && g.names[n].template == 0 && typ.Same(g.names[n].t, t) {
		return variable(g.names[n].s)
	}
	switch t.Kind {
	case api.TInt:
		return g.number(levels)
	case api.TText:
		return g.text(levels)
	case api.TRec:
		return g.record(t, levels)
	case api.TSum:
		i := g.Below(len(t.Labels))
		return node(api.Tag, t.Labels[i], g.of(t.L[i], levels))
	case api.TFn:
		s := g.fresh()
		return node(api.Fn, s, g.with(named{s, t.L[0], 0}, t.L[1], levels))
	}
	return node(api.Ref, "", g.of(t.L[0], levels))
}

// number makes an integer.
func (g *maker) number(levels int) api.Expr {
	integer := plain(api.TInt)
	if levels > 0 && g.Below(2) == 0 {
		s := Pick(g.Source, "+", "-", "*", "<", "==", "/", "#")
		left := integer
		if s == "#" {
			left = plain(api.TText)
		}
		return node(api.Op, s, g.of(left, levels), g.of(integer, levels))
	}
	return api.Expr{Kind: api.Int, N: Pick[int64](g.Source, 0, 1, 1, 2, 3, 10, 100, 9223372036854775807)}
}

// text makes a text.
func (g *maker) text(levels int) api.Expr {
	if levels > 0 {
		switch g.Below(4) {
		case 0:
			return node(api.Op, "^", g.of(plain(api.TText), levels), g.of(plain(api.TText), levels))
		case 1:
			return node(api.Show, "", g.of(plain(api.TInt), levels))
		case 2:
			return node(api.Read, "")
		}
	}
	return node(api.Text, Pick(g.Source, "", "a", "hello", "x\ny", "q\"\\", "~ "))
}

// record makes a record: as a whole, by what prints or sets, or out of another one.
func (g *maker) record(t api.Type, levels int) api.Expr {
	if len(t.Labels) == 0 && levels > 0 {
		if g.Below(2) == 0 {
			return node(api.Print, "", g.of(plain(api.TText), levels))
		}
		of := g.ground(1)
		return node(api.Set, "", g.of(plain(api.TRef, of), levels), g.of(of, levels))
	}
	if levels > 0 && len(t.Labels) > 0 {
		i := g.Below(len(t.Labels))
		s, part := t.Labels[i], t.L[i]
		switch g.Below(4) {
		case 0:
			return node(api.Ext, s, g.of(part, levels), g.of(less(t, s), levels))
		case 1:
			return node(api.Upd, s, g.of(part, levels), g.of(more(less(t, s), s, g.ground(1)), levels))
		}
	}
	if levels > 0 && g.Below(4) == 0 && !label.Has(t.Labels, "b1") {
		return node(api.Cut, "b1", g.of(more(t, "b1", g.ground(1)), levels))
	}
	e := node(api.Record, "")
	for i, s := range t.Labels {
		e.Labels, e.L = append(e.Labels, s), append(e.L, g.of(t.L[i], levels))
	}
	return e
}

// less is a row without a label.
func less(t api.Type, s string) api.Type {
	told := typ.Row(t.Kind, nil, nil, -1)
	for i, l := range t.Labels {
		if l != s {
			told.Labels, told.L = append(told.Labels, l), append(told.L, t.L[i])
		}
	}
	return told
}

// more is a row with one label more.
func more(t api.Type, s string, part api.Type) api.Type {
	told := typ.Row(t.Kind, label.Join(t.Labels, []string{s}), nil, -1)
	for _, l := range told.Labels {
		if l == s {
			told.L = append(told.L, part)
		} else {
			told.L = append(told.L, t.L[label.Offset(t.Labels, l)])
		}
	}
	return told
}

// match makes a Match, of all tags, or of some and the rest.
func (g *maker) match(t api.Type, levels int) api.Expr {
	sum := g.row(api.TSum, 1, label.Join(g.set("A", "B", "C"), []string{"D"}))
	e := node(api.Match, "", g.of(sum, levels-1))
	rest := g.Below(2) == 0
	other := sum
	for i, s := range sum.Labels {
		if rest && g.Below(2) == 0 && len(other.Labels) > 1 || !rest {
			name := g.fresh()
			e.Labels, e.Names = append(e.Labels, s), append(e.Names, name)
			e.L = append(e.L, g.with(named{name, sum.L[i], 0}, t, levels-1))
			other = less(other, s)
		}
	}
	if rest {
		e.T = g.fresh()
		e.L = append(e.L, g.with(named{e.T, other, 0}, t, levels-1))
	}
	return e
}

// loop makes a Rec that ends soon.
func (g *maker) loop(t api.Type, levels int) api.Expr {
	f, n := "f"+strconv.Itoa(levels), "n"
	integer := plain(api.TInt)
	again := node(api.App, "", variable(f), node(api.Op, "-", variable(n), api.Expr{Kind: api.Int, N: 1}))
	end := node(api.Op, "<", variable(n), api.Expr{Kind: api.Int, N: 1})
	last := g.with(named{n, integer, 0}, t, levels-1)
	body := node(api.If, "", end, last, again)
	e := node(api.Rec, f, body, g.with(named{f, plain(api.TFn, integer, t), 0}, t, levels-1))
	e.T = n
	return e
}

// templates is how many there are, from 1 on; the last one has a name of its own.
const templates = 13

// many makes an expression where a name has many types.
func (g *maker) many(t api.Type, levels int) api.Expr {
	s, which := g.fresh(), 1+g.Below(templates)
	of := template(which)
	last := g.with(named{s, t, which}, t, levels-1)
	if which < templates {
		return node(api.Let, s, of, last)
	}
	of.S, of.L[1] = s, last
	call := &of.L[0].L[0].L[2].L[0]
	call.L[0] = variable(s)
	return of
}

// template is a function of many types.
func template(which int) api.Expr {
	text := ""
	switch which {
	case 1:
		text = `fn x -> x`
	case 2:
		text = `fn r -> r.b`
	case 3:
		text = `fn x -> fn r -> {r with b = x}`
	case 4:
		text = `fn x -> fn r -> {b = x | r}`
	case 5:
		text = `fn r -> r\b`
	case 6:
		text = `fn f -> fn x -> f (f x)`
	case 7:
		text = `fn x -> B x`
	case 8:
		text = `fn d -> fn v -> match v with | B x -> x | z -> d end`
	case 9:
		text = `fn v -> match v with | B x -> C x | z -> z end`
	case 10:
		text = `fn r -> let rec f n = fn s -> if n < 1 then s.b else f (n - 1) {s with a = n} in f 2 r`
	case 11:
		text = `fn x -> fn r -> let g = fn s -> {c = x | s\b} in {b = 1 | g r}`
	case 12:
		text = `{b = fn r -> r.b, c = fn r -> r.c}`
	default:
		text = `let rec f n = fn r -> if n < 1 then r.b else f (n - 1) r in f`
	}
	e, err := parse.Program([]byte(text))
	if err != nil {
		panic(text)
	}
	return e
}

// use makes an expression by a function of many types, if one is bound that tells such.
func (g *maker) use(t api.Type, levels int) api.Expr {
	if len(g.names) == 0 {
		return g.least(t, levels-1)
	}
	n := Pick(g.Source, g.names...)
	app := func(l ...api.Type) api.Expr {
		e := variable(n.s)
		for _, of := range l {
			e = node(api.App, "", e, g.of(of, levels-1))
		}
		return e
	}
	rest, has := less(t, "b"), label.Has(t.Labels, "b")
	switch of := g.ground(1); {
	case n.template == 1:
		return app(t)
	case n.template == 2:
		return app(g.including(api.TRec, "b", t))
	case n.template == 3 && t.Kind == api.TRec && has:
		return app(t.L[label.Offset(t.Labels, "b")], more(rest, "b", of))
	case n.template == 4 && t.Kind == api.TRec && has:
		return app(t.L[label.Offset(t.Labels, "b")], rest)
	case n.template == 5 && t.Kind == api.TRec && !has:
		return app(more(t, "b", of))
	case n.template == 6:
		return app(plain(api.TFn, t, t), t)
	case n.template == 7 && t.Kind == api.TSum && label.Has(t.Labels, "B"):
		return app(t.L[label.Offset(t.Labels, "B")])
	case n.template == 8:
		return app(t, more(g.row(api.TSum, 1, g.set("A", "C", "D")), "B", t))
	case n.template == 9 && t.Kind == api.TSum && label.Has(t.Labels, "C") && !label.Has(t.Labels, "B"):
		return app(more(t, "B", t.L[label.Offset(t.Labels, "C")]))
	case n.template == 10:
		return app(more(more(g.row(api.TRec, 1, g.set("c", "d")), "a", plain(api.TInt)), "b", t))
	case n.template == 11 && t.Kind == api.TRec && has && label.Has(t.Labels, "c") && t.L[label.Offset(t.Labels, "b")].Kind == api.TInt:
		return app(t.L[label.Offset(t.Labels, "c")], more(less(rest, "c"), "b", of))
	case n.template == 13:
		return node(api.App, "", node(api.App, "", variable(n.s), api.Expr{Kind: api.Int, N: 1}), g.of(g.including(api.TRec, "b", t), levels-1))
	case n.template == 12:
		row := g.including(api.TRec, "b", t)
		return node(api.App, "", node(api.Sel, "b", variable(n.s)), g.of(row, levels-1))
	}
	return g.least(t, levels-1)
}
