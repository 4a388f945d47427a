// Package samples makes expressions for the tests of the layers: the same ones from the same seed.
package samples

import "bushel/api"

// Source tells numbers that look as if by chance.
type Source struct {
	state uint64
}

// New makes a source: each seed has its own numbers.
func New(seed int) *Source { return &Source{uint64(seed)*2862933555777941757 + 3037000493} }

// Below is a number from 0 on, below n.
func (r *Source) Below(n int) int {
	r.state = r.state*6364136223846793005 + 1442695040888963407
	return int(r.state>>33) % n
}

// Pick is one of a list.
func Pick[T any](r *Source, l ...T) T { return l[r.Below(len(l))] }

// names are few, so that some are bound more than once.
func (r *Source) name() string { return Pick(r, "a", "b", "x", "y", "f0", "zz") }

func (r *Source) tag() string { return Pick(r, "A", "B", "Cc", "D1", "Ee") }

func (r *Source) text() string { return Pick(r, "", "a", "hello", "x\ny", "q\"\\", "~ ") }

func (r *Source) number() int64 { return Pick[int64](r, 0, 1, 2, 7, 1000, 9223372036854775807) }

// set is some of a list, in its order.
func (r *Source) set(l ...string) []string {
	var some []string
	for _, s := range l {
		if r.Below(2) == 0 {
			some = append(some, s)
		}
	}
	return some
}

// Any is an expression of at most so many levels that may be, typed or not, closed or not.
func (r *Source) Any(levels int) api.Expr {
	if levels <= 1 {
		return r.leaf()
	}
	e := api.Expr{Kind: 1 + r.Below(22), At: r.Below(100)}
	parts := 0
	switch e.Kind {
	case api.Int, api.Text, api.Var, api.Read:
		return r.leaf()
	case api.Fn, api.Sel, api.Cut:
		e.S, parts = r.name(), 1
	case api.Let, api.Ext, api.Upd:
		e.S, parts = r.name(), 2
	case api.Rec:
		e.S, e.T, parts = r.name(), r.name(), 2
	case api.Tag:
		e.S, parts = r.tag(), 1
	case api.Op:
		e.S, parts = Pick(r, "+", "-", "*", "/", "<", "==", "^", "#"), 2
	case api.App, api.Set:
		parts = 2
	case api.Ref, api.Get, api.Print, api.Show:
		parts = 1
	case api.If:
		parts = 3
	case api.Record:
		e.Labels = r.set("a", "b", "b1", "c")
		parts = len(e.Labels)
	case api.Match:
		parts = r.arms(&e)
	}
	for range parts {
		e.L = append(e.L, r.Any(levels-1-r.Below(2)))
	}
	return e
}

// arms chooses a Match's tags and names, and tells how many parts it has.
func (r *Source) arms(e *api.Expr) int {
	e.Labels = r.set("A", "B", "Cc")
	for range e.Labels {
		e.Names = append(e.Names, r.name())
	}
	if len(e.Labels) == 0 || r.Below(2) == 0 {
		e.T = r.name()
		return len(e.Labels) + 2
	}
	return len(e.Labels) + 1
}

// leaf is an expression without parts.
func (r *Source) leaf() api.Expr {
	e := api.Expr{At: r.Below(100)}
	switch r.Below(7) {
	case 0:
		e.Kind = api.Read
	case 1:
		e.Kind = api.Record
	case 2:
		e.Kind, e.S = api.Text, r.text()
	case 3, 4:
		e.Kind, e.N = api.Int, r.number()
	default:
		e.Kind, e.S = api.Var, r.name()
	}
	return e
}
