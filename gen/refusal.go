package gen

import (
	"bushel/api"
	"bushel/core"
)

// leastCode is how many instructions there are at least: one for each expression but names, and what binds them alone.
func leastCode(e *api.Core) int {
	n := 0
	if e.Kind != api.CVar && e.Kind != api.CLet {
		n = 1
	}
	for i := range e.L {
		n += leastCode(&e.L[i])
	}
	return n
}

// refusal is the error of an expression whose code is too long. Its functions aren't asked for: each of them has a
// copy of those within it, and of such an expression these may be more than there is memory for.
func refusal(e api.Core) error {
	functions, nameless := count(&e)
	switch {
	case len(core.Free(e)) > 0 || nameless > 0:
		return api.ErrScope
	case 1+functions > api.MaxFuns || mayBe(&e):
		return api.ErrLimit
	}
	return api.ErrCode
}

// count is how many functions there are, and how many CRecs without a name of their own.
func count(e *api.Core) (functions, nameless int) {
	if e.Kind == api.CFn || e.Kind == api.CRec {
		functions = 1
	}
	if e.Kind == api.CRec && e.S == "" {
		nameless = 1
	}
	for i := range e.L {
		f, n := count(&e.L[i])
		functions, nameless = functions+f, nameless+n
	}
	return functions, nameless
}
