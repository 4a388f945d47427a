package gen

import "bushel/api"

// into writes what puts into a register what an expression comes to; registers that are taken on the way are free again behind it.
func (w *writer) into(e *api.Core, to int) {
	next, names := w.next, len(w.names)
	switch e.Kind {
	case api.CInt:
		w.say(api.OpInt, to, w.integer(e.N))
	case api.CText:
		w.say(api.OpText, to, w.text(e.S))
	case api.CVar:
		w.say(api.OpMove, to, w.register(e.S))
	case api.CFn:
		w.closure(e, to)
	case api.CRec:
		at := w.fresh()
		w.closure(e, at)
		w.bind(e.S, at)
		w.into(&e.L[1], to)
	case api.CLet:
		w.bind(e.S, w.operand(&e.L[0]))
		w.into(&e.L[1], to)
	case api.CIf:
		w.choice(e, to)
	case api.CCase:
		w.cases(e, to)
	case api.COp:
		op, _ := operator(e.S)
		w.say(api.OpArith, to, append([]int{op}, w.operands(e.L)...)...)
	default:
		w.say(operation(e.Kind), to, w.operands(e.L)...)
	}
	w.next, w.names = next, w.names[:names]
}

// operation is that of an expression whose parts are its registers.
func operation(kind int) int {
	switch kind {
	case api.CApp:
		return api.OpApp
	case api.CTuple:
		return api.OpTuple
	case api.CSel:
		return api.OpSel
	case api.CIns:
		return api.OpIns
	case api.CDel:
		return api.OpDel
	case api.CPut:
		return api.OpPut
	case api.CTag:
		return api.OpTag
	case api.CRef:
		return api.OpRef
	case api.CGet:
		return api.OpGet
	case api.CSet:
		return api.OpSet
	case api.CPrint:
		return api.OpPrint
	case api.CShow:
		return api.OpShow
	}
	return api.OpRead
}

// closure writes a function that takes along what it needs.
func (w *writer) closure(e *api.Core, to int) {
	l := []int{int(e.N)}
	for _, name := range w.funs[e.N].Caps {
		l = append(l, w.register(name))
	}
	w.say(api.OpClos, to, l...)
}

// choice writes a CIf.
func (w *writer) choice(e *api.Core, to int) {
	other := w.say(api.OpZero, 0, w.operand(&e.L[0]), 0)
	w.into(&e.L[1], to)
	end := w.say(api.OpGo, 0, 0)
	w.here(other)
	w.into(&e.L[2], to)
	w.here(end)
}

// cases writes a CCase.
func (w *writer) cases(e *api.Core, to int) {
	from := w.operand(&e.L[0])
	// Ahead of all tags: what isn't tagged must not come as far as these.
	inner := w.fresh()
	w.say(api.OpOf, inner, from)
	tags := []int{from}
	var ends []int
	for i, name := range e.Names {
		tag := w.operand(&e.L[2*i+1])
		tags = append(tags, tag)
		w.say(api.OpIs, to, from, tag)
		other := w.say(api.OpZero, 0, to, 0)
		w.bind(name, inner)
		w.into(&e.L[2*i+2], to)
		w.names = w.names[:len(w.names)-1]
		ends = append(ends, w.say(api.OpGo, 0, 0))
		w.here(other)
	}
	if e.T == "" {
		// What is tagged is no reference: this ends where no tag is met.
		w.say(api.OpGet, to, from)
	} else {
		rest := w.fresh()
		w.say(api.OpLower, rest, tags...)
		w.bind(e.T, rest)
		w.into(&e.L[len(e.L)-1], to)
	}
	for _, end := range ends {
		w.here(end)
	}
}
