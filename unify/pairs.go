package unify

import (
	"slices"

	"bushel/api"
	"bushel/label"
)

// pair is two types that are to be one.
type pair struct {
	a, b *api.Type
}

// pairs are those that are still to be looked at, the next one last.
type pairs struct {
	todo   []pair
	looked int
	over   bool              // a limit is passed: it is gone on but to see whether there is a type at all
	seen   map[pair]struct{} // what was looked at since: once is enough then
}

// Unify makes two types one: P11.3.
func (s *Solver) Unify(a, b api.Type) error {
	if !s.isKnown(a) || !s.isKnown(b) {
		return api.ErrArg
	}
	x, y := copied(&a), copied(&b)
	if !s.lackAll(&x) || !s.lackAll(&y) {
		return api.ErrType
	}
	p := pairs{todo: []pair{{&x, &y}}, seen: map[pair]struct{}{}}
	for len(p.todo) > 0 {
		if !s.look(&p) {
			return api.ErrType
		}
	}
	if p.over || s.isFull() {
		return api.ErrLimit
	}
	return nil
}

// isFull tells whether there are more variables than may be.
func (s *Solver) isFull() bool { return len(s.types)+len(s.rows) > api.MaxVars }

// copied is a type in new memory.
func copied(t *api.Type) api.Type {
	told := *t
	told.L, told.Labels = nil, slices.Clone(t.Labels)
	for i := range t.L {
		told.L = append(told.L, copied(&t.L[i]))
	}
	return told
}

// lackAll lets the Tail of each row of a type lack that row's labels.
func (s *Solver) lackAll(t *api.Type) bool {
	if isRow(t) && t.Tail != none && s.Lack(t.Tail, t.Labels) != nil {
		return false
	}
	for i := range t.L {
		if !s.lackAll(&t.L[i]) {
			return false
		}
	}
	return true
}

// look looks at the next pair, and tells whether it can be one.
func (s *Solver) look(p *pairs) bool {
	last := len(p.todo) - 1
	a, b := s.now(p.todo[last].a), s.now(p.todo[last].b)
	p.todo = p.todo[:last]
	p.looked++
	p.over = p.over || p.looked > api.MaxVars
	if a == b || p.over && p.was(pair{a, b}) {
		return true
	}
	switch {
	case a.Kind == api.TVar:
		return s.stands(a, b)
	case b.Kind == api.TVar:
		return s.stands(b, a)
	case a.Kind != b.Kind:
		return false
	case isRow(a):
		return s.oneRow(p, s.row(a), s.row(b))
	}
	for i := len(a.L) - 1; i >= 0; i-- {
		p.todo = append(p.todo, pair{&a.L[i], &b.L[i]})
	}
	return true
}

// was tells whether a pair was asked for before.
func (p *pairs) was(x pair) bool {
	_, was := p.seen[x]
	p.seen[x] = struct{}{}
	return was
}

// stands lets a type stand for a variable, unless that is met in it.
func (s *Solver) stands(v, t *api.Type) bool {
	if t.Kind == api.TVar && t.N == v.N {
		return true
	}
	if s.meets([]*api.Type{t}, v.N, none) {
		return false
	}
	s.types[v.N].to = t
	return true
}

// oneRow lets two rows have the same labels, and Tail; the parts of labels that both had are looked at then.
func (s *Solver) oneRow(p *pairs, a, b row) bool {
	moreA, moreB := less(a, b), less(b, a)
	if a.tail == b.tail && a.tail != none {
		if len(moreA.labels)+len(moreB.labels) > 0 {
			return false
		}
	} else {
		rest := none
		if a.tail != none && b.tail != none {
			rest = s.Row()
			lacks := label.Join(s.rows[a.tail].lacks, s.rows[b.tail].lacks)
			s.rows[rest].lacks = label.Join(lacks, label.Join(a.labels, b.labels))
		}
		moreA.tail, moreB.tail = rest, rest
		if !s.come(a.tail, moreB) || !s.come(b.tail, moreA) {
			return false
		}
	}
	both := label.Meet(a.labels, b.labels)
	for _, l := range slices.Backward(both) {
		p.todo = append(p.todo, pair{a.part(l), b.part(l)})
	}
	return true
}

// part is that of a label.
func (r row) part(l string) *api.Type { return r.parts[label.Offset(r.labels, l)] }

// less is a row of the labels of a that b doesn't have.
func less(a, b row) row {
	told := row{labels: label.Less(a.labels, b.labels), tail: none}
	for _, l := range told.labels {
		told.parts = append(told.parts, a.part(l))
	}
	return told
}

// come lets a row come to a Tail, if that may be.
func (s *Solver) come(tail int, r row) bool {
	if tail == none {
		return len(r.labels) == 0
	}
	if len(label.Meet(s.rows[tail].lacks, r.labels)) > 0 || s.meets(r.parts, none, tail) {
		return false
	}
	s.stand(tail, r)
	return true
}

// meets tells whether a type variable, or a row variable, is met in types.
func (s *Solver) meets(l []*api.Type, typeVar, tail int) bool {
	s.walks++
	todo := slices.Clone(l)
	for len(todo) > 0 {
		t := todo[len(todo)-1]
		todo = todo[:len(todo)-1]
		if t.Kind == api.TVar {
			if t.N == typeVar {
				return true
			}
			todo = s.enter(todo, t.N)
			continue
		}
		for i := range t.L {
			todo = append(todo, &t.L[i])
		}
		for at := t.Tail; isRow(t) && at != none; at = s.rows[at].to.tail {
			v := &s.rows[at]
			if at == tail {
				return true
			}
			if v.met == s.walks || !v.bound {
				break
			}
			v.met = s.walks
			todo = append(todo, v.to.parts...)
		}
	}
	return false
}

// enter adds what stands for a type variable, if it wasn't met in this walk.
func (s *Solver) enter(todo []*api.Type, n int) []*api.Type {
	v := &s.types[n]
	if v.met == s.walks || v.to == nil {
		return todo
	}
	v.met = s.walks
	return append(todo, v.to)
}

// Now is a type as it stands: P11.3.
func (s *Solver) Now(t api.Type) (api.Type, error) {
	if !s.isKnown(t) {
		return api.Type{}, api.ErrArg
	}
	e := expansion{solver: s}
	e.count(&t)
	if e.nodes > api.MaxTypes {
		return api.Type{}, api.ErrLimit
	}
	if e.clash {
		return api.Type{}, api.ErrType
	}
	return e.of(&t), nil
}

// expansion tells a type with all that stands for its variables.
type expansion struct {
	solver *Solver
	nodes  int
	clash  bool // a label would stand twice in one row
}

// count counts nodes, as long as there aren't too many.
func (e *expansion) count(t *api.Type) {
	t = e.solver.now(t)
	e.nodes++
	if e.nodes > api.MaxTypes {
		return
	}
	if !isRow(t) {
		for i := range t.L {
			e.count(&t.L[i])
		}
		return
	}
	r := e.solver.row(t)
	e.clash = e.clash || !label.Is(r.labels)
	for _, part := range r.parts {
		e.count(part)
	}
}

// of is a type with all that stands for its variables.
func (e *expansion) of(t *api.Type) api.Type {
	t = e.solver.now(t)
	if isRow(t) {
		r := e.solver.row(t)
		told := api.Type{Kind: t.Kind, Labels: slices.Clone(r.labels), Tail: r.tail}
		for _, part := range r.parts {
			told.L = append(told.L, e.of(part))
		}
		return told
	}
	told := api.Type{Kind: t.Kind, N: t.N, Tail: none}
	for i := range t.L {
		told.L = append(told.L, e.of(&t.L[i]))
	}
	return told
}
