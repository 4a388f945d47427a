package infer

import (
	"bushel/api"
	"bushel/typ"
)

// binder is a name, and its type.
type binder struct {
	name   string
	t      api.Type
	within bool       // of a Rec, as long as its own part is looked at
	types  []int      // for these it has all types
	rows   []int      // for these, too
	lacks  [][]string // what each of rows lacks
	needs  []api.Need
	closed bool // no variables are in its type but types and rows
	any    bool // its type is too great: it may be anything
}

// use types a Var.
func (w *work) use(n *node, names []*binder) {
	b := bound(n.e.S, names)
	n.binder, n.within = b, b.within
	if b.any {
		return
	}
	types, rows := map[int]api.Type{}, map[int]api.Type{}
	n.rows = map[int]int{}
	for _, v := range b.types {
		types[v] = w.solver.Type()
	}
	for i, r := range b.rows {
		tail := w.solver.Row()
		n.rows[r] = tail
		rows[r] = rest(api.TRec, tail)
		if err := w.solver.Lack(tail, b.lacks[i]); err != nil {
			w.fail(n, err)
			return
		}
	}
	t, err := typ.Put(b.t, types, rows)
	if err != nil {
		w.fail(n, err)
		return
	}
	w.one(n, n.t, t)
}

// bound is the binder of a name: there is one, for the program is closed, and just one, for names are numbers.
func bound(name string, names []*binder) *binder {
	for _, b := range names {
		if b.name == name {
			return b
		}
	}
	return &binder{any: true}
}

// generalize lets a Let's or a Rec's name have all types that its type stands for.
func (w *work) generalize(n *node, names []*binder) {
	if w.stopped() {
		return
	}
	b := n.binder
	t, err := w.solver.Now(b.t)
	if err != nil {
		b.any = true
		w.passed(n)
		return
	}
	types, rows := typ.Vars(t)
	metTypes, metRows := map[int]struct{}{}, map[int]struct{}{}
	if len(types)+len(rows) == 0 {
		// Of other names' types, which may be great, nothing is asked then.
		names = nil
	}
	for _, other := range names {
		if !w.meet(other, metTypes, metRows) {
			// As if it had no variables: so the name has more types than it may, but none less.
			w.passed(n)
		}
	}
	b.t = t
	b.types, b.rows = without(types, metTypes), without(rows, metRows)
	for _, r := range b.rows {
		lacks := w.solver.Lacks(r)
		b.lacks = append(b.lacks, lacks)
		for _, s := range lacks {
			b.needs = append(b.needs, api.Need{Row: r, Label: s})
		}
	}
	w.told = append(w.told, b.needs...)
}

// meet adds the variables of a name's type, but for those that it is told for all of; it tells whether the type isn't too great.
func (w *work) meet(b *binder, metTypes, metRows map[int]struct{}) bool {
	if b.closed || b.any {
		return true
	}
	t, err := w.solver.Now(b.t)
	if err != nil {
		return false
	}
	types, rows := typ.Vars(t)
	types, rows = without(types, set(b.types)), without(rows, set(b.rows))
	b.closed = len(types)+len(rows) == 0
	for _, v := range types {
		metTypes[v] = struct{}{}
	}
	for _, r := range rows {
		metRows[r] = struct{}{}
	}
	return true
}

func set(l []int) map[int]struct{} {
	told := map[int]struct{}{}
	for _, n := range l {
		told[n] = struct{}{}
	}
	return told
}

// without are those of a list that aren't in a set.
func without(l []int, met map[int]struct{}) []int {
	var told []int
	for _, n := range l {
		if _, is := met[n]; !is {
			told = append(told, n)
		}
	}
	return told
}

// closeRows closes the row variables that are left, but those that a name is told of.
func (w *work) closeRows() {
	told := map[int]struct{}{}
	for _, n := range w.told {
		told[n.Row] = struct{}{}
	}
	last := w.solver.Row()
	for r := range last + 1 {
		if _, is := told[r]; !is {
			// That something stands for it is no error here: it isn't left then.
			_ = w.solver.Close(r)
		}
	}
}

// deriv is what was typed, as it stands in the end.
func (w *work) deriv(n *node) api.Deriv {
	d := api.Deriv{E: *n.e, T: w.now(n, n.t)}
	d.E.L = nil
	if n.row != nil {
		d.Row = w.now(n.row, n.row.t)
	}
	if n.binder != nil {
		if n.e.Kind == api.Var {
			d.Args = w.args(n)
		} else {
			d.Needs = append(d.Needs, n.binder.needs...)
		}
	}
	for _, part := range n.parts {
		if w.err != nil {
			break
		}
		d.L = append(d.L, w.deriv(part))
	}
	return d
}

// args are the offsets that a Var tells what it stands for.
func (w *work) args(n *node) []api.Evid {
	var l []api.Evid
	var row api.Type
	last := none
	for _, need := range n.binder.needs {
		if n.within {
			l = append(l, api.Evid{Row: need.Row, Label: need.Label})
			continue
		}
		// Needs of one row variable stand together, and there may be many.
		if need.Row != last {
			last, row = need.Row, w.now(n, rest(api.TRec, n.rows[need.Row]))
		}
		l = append(l, offset(row, need.Label))
	}
	return l
}

// offset is a label's in a row that lacks it.
func offset(row api.Type, s string) api.Evid {
	e := api.Evid{Row: none}
	for _, l := range row.Labels {
		if l < s {
			e.N++
		}
	}
	if row.Tail != none {
		e.Row, e.Label = row.Tail, s
	}
	return e
}
