package typ

import (
	"bushel/api"
	"bushel/label"
)

// Put puts types and rows in: P10.2.
func Put(t api.Type, types map[int]api.Type, rows map[int]api.Type) (api.Type, error) {
	p := putting{types, rows, sizes(types), sizes(rows)}
	if !May(t) || !p.may() {
		return api.Type{}, api.ErrArg
	}
	if p.size(&t) > api.MaxTypes {
		return api.Type{}, api.ErrLimit
	}
	if p.clashes(&t) {
		return api.Type{}, api.ErrType
	}
	return p.in(&t), nil
}

// putting has what is put in, and how many nodes that has.
type putting struct {
	types     map[int]api.Type
	rows      map[int]api.Type
	typeSizes map[int]int
	rowSizes  map[int]int
}

// sizes are how many nodes types have, that may be; of others none is told.
func sizes(types map[int]api.Type) map[int]int {
	told := map[int]int{}
	for n, t := range types {
		size := 0
		if mayBe(&t, &size) {
			told[n] = size
		}
	}
	return told
}

// may tells whether all that is put in may be.
func (p *putting) may() bool {
	for _, t := range p.rows {
		if t.Kind != api.TRec {
			return false
		}
	}
	return len(p.typeSizes) == len(p.types) && len(p.rowSizes) == len(p.rows)
}

// row is what is put in for a row's Tail, if there is anything.
func (p *putting) row(t *api.Type) (api.Type, bool) {
	if !isRow(t) || t.Tail < 0 {
		return api.Type{}, false
	}
	row, is := p.rows[t.Tail]
	return row, is
}

// size is how many nodes there would be.
func (p *putting) size(t *api.Type) int {
	if _, is := p.types[t.N]; is && t.Kind == api.TVar {
		return p.typeSizes[t.N]
	}
	n := 1
	if _, is := p.row(t); is {
		// The row's parts count, it doesn't itself.
		n = p.rowSizes[t.Tail]
	}
	for i := range t.L {
		n += p.size(&t.L[i])
	}
	return n
}

// clashes tells whether a label would stand twice in one row.
func (p *putting) clashes(t *api.Type) bool {
	if row, is := p.row(t); is && len(label.Meet(t.Labels, row.Labels)) > 0 {
		return true
	}
	for i := range t.L {
		if p.clashes(&t.L[i]) {
			return true
		}
	}
	return false
}

// in is a type with all put in.
func (p *putting) in(t *api.Type) api.Type {
	if to, is := p.types[t.N]; is && t.Kind == api.TVar {
		return copied(&to)
	}
	if isRow(t) {
		return p.inRow(t)
	}
	told := api.Type{Kind: t.Kind, N: t.N, Tail: none}
	for i := range t.L {
		told.L = append(told.L, p.in(&t.L[i]))
	}
	return told
}

// inRow is a row with all put in.
func (p *putting) inRow(t *api.Type) api.Type {
	row, is := p.row(t)
	told := api.Type{Kind: t.Kind, Labels: label.Join(t.Labels, row.Labels), Tail: t.Tail}
	if is {
		told.Tail = row.Tail
	}
	for _, s := range told.Labels {
		if label.Has(t.Labels, s) {
			told.L = append(told.L, p.in(&t.L[label.Offset(t.Labels, s)]))
		} else {
			told.L = append(told.L, copied(&row.L[label.Offset(row.Labels, s)]))
		}
	}
	return told
}
