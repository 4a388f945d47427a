package samples

import "bushel/api"

// Core is a core expression of at most so many levels, of any sort; now and then it has a part more, or less, than it is to have, if it may.
func (r *Source) Core(levels int, bad bool) api.Core {
	e := api.Core{Kind: 1 + r.Below(22)}
	if levels <= 1 {
		e.Kind = Pick(r, api.CInt, api.CInt, api.CText, api.CVar, api.CVar, api.CTuple, api.CRead)
	}
	parts := 0
	switch e.Kind {
	case api.CInt:
		e.N = r.number()
	case api.CText:
		e.S = r.text()
	case api.CVar:
		e.S = r.few()
	case api.CFn:
		e.S, parts = r.few(), 1
	case api.CLet:
		e.S, parts = r.few(), 2
	case api.CRec:
		e.S, e.T, parts = r.few(), r.few(), 2
	case api.COp:
		e.S, parts = Pick(r, "+", "-", "*", "/", "<", "==", "^", "#"), 2
	case api.CTuple:
		parts = r.Below(4)
	case api.CCase:
		parts = 1 + 2*r.Below(3)
		for range parts / 2 {
			e.Names = append(e.Names, r.few())
		}
		if r.Below(2) == 0 {
			e.T = r.few()
			parts++
		}
	case api.CApp, api.CSel, api.CDel, api.CTag, api.CSet:
		parts = 2
	case api.CRef, api.CGet, api.CPrint, api.CShow:
		parts = 1
	case api.CIf, api.CIns, api.CPut:
		parts = 3
	}
	if bad && r.Below(12) == 0 {
		parts = max(0, parts+Pick(r, -1, 1))
	}
	if levels <= 1 {
		parts = 0
	}
	for range parts {
		e.L = append(e.L, r.Core(levels-1-r.Below(2), bad))
	}
	return e
}

// few are fewer names: most are bound somewhere.
func (r *Source) few() string { return Pick(r, "a", "b", "c") }
