// Package shape tells how expressions, and core expressions, are built: which names they bind, how many parts they have.
package shape

import "bushel/api"

// Names are those that an expression binds in its part number i, the innermost one last.
func Names(e *api.Core, i int) []string {
	tags := len(e.Names)
	switch {
	case e.Kind == api.CFn && i == 0, e.Kind == api.CLet && i == 1, e.Kind == api.CRec && i == 1:
		return []string{e.S}
	case e.Kind == api.CRec && i == 0:
		return []string{e.S, e.T}
	case e.Kind == api.CCase && i > 2*tags:
		return []string{e.T}
	case e.Kind == api.CCase && i > 0 && i%2 == 0:
		return []string{e.Names[i/2-1]}
	}
	return nil
}

// Parts tells whether an expression has as many parts as its kind is to have.
func Parts(e *api.Core) bool {
	n := len(e.L)
	switch e.Kind {
	case api.CInt, api.CText, api.CVar, api.CRead:
		return n == 0
	case api.CFn, api.CRef, api.CGet, api.CPrint, api.CShow:
		return n == 1
	case api.CApp, api.CLet, api.CRec, api.CSel, api.CDel, api.CTag, api.COp, api.CSet:
		return n == 2
	case api.CIns, api.CPut, api.CIf:
		return n == 3
	case api.CTuple:
		return true
	case api.CCase:
		if e.T != "" {
			n--
		}
		return n == 1+2*len(e.Names)
	}
	return false
}

// ExprParts tells whether so many parts are as many as an expression's kind is to have, and a Match's names as many as its labels.
func ExprParts(e *api.Expr, n int) bool {
	switch e.Kind {
	case api.Int, api.Text, api.Var, api.Read:
		return n == 0
	case api.Fn, api.Sel, api.Cut, api.Tag, api.Ref, api.Get, api.Print, api.Show:
		return n == 1
	case api.App, api.Let, api.Rec, api.Ext, api.Upd, api.Op, api.Set:
		return n == 2
	case api.If:
		return n == 3
	case api.Record:
		return n == len(e.Labels)
	case api.Match:
		if e.T != "" {
			n--
		}
		return n == 1+len(e.Labels) && len(e.Names) == len(e.Labels)
	}
	return false
}

// Union puts the smaller set of names into the larger one, which it tells: a long chain of parts costs little then.
func Union(a, b map[string]struct{}) map[string]struct{} {
	if len(a) < len(b) {
		a, b = b, a
	}
	for s := range b {
		a[s] = struct{}{}
	}
	return a
}
