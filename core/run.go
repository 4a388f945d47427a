package core

import (
	"slices"

	"bushel/api"
	"bushel/shape"
)

// value is a value as it runs.
type value struct {
	kind int
	n    int64
	s    string
	l    []value
	fn   *function
}

// function is a function, where its names have values.
type function struct {
	self  string // its own name, if it has one
	isRec bool
	arg   string
	part  *api.Core
	names *binding
}

// binding is a name's value, ahead of those that were bound before.
type binding struct {
	name string
	v    value
	next *binding
}

// frame is an expression of which some parts have come to values; these stand from its base on.
type frame struct {
	e     *api.Core
	names *binding
	base  int
}

// machine runs without Go's own stack, so that it may go as deep as there is fuel.
type machine struct {
	input  []string
	fuel   int
	out    api.Out
	refs   []value
	values []value
	frames []frame
	next   *api.Core // what is begun next, if anything is
	names  *binding  // the names of that
}

// Run runs an expression: P14.1.
func Run(e api.Core, input []string, fuel int) (Value, api.Out) {
	m := machine{input: input, fuel: fuel, next: &e}
	for m.out.Err == 0 && (m.next != nil || len(m.frames) > 0) {
		if m.next != nil {
			m.begin()
		} else {
			m.goOn()
		}
	}
	if m.out.Err != 0 {
		return Value{}, m.out
	}
	return told(&m.values[0]), m.out
}

// telling is a value, and where it is told.
type telling struct {
	from *value
	to   *Value
}

// told is a value as it is handed out: a function is told as such alone. Tuples may lie deep in tuples, so it is told without Go's own stack, too.
func told(v *value) Value {
	var t Value
	for todo := []telling{{v, &t}}; len(todo) > 0; {
		next := todo[len(todo)-1]
		todo = todo[:len(todo)-1]
		from, to := next.from, next.to
		*to = Value{Kind: from.kind, N: from.n, S: from.s}
		if len(from.l) > 0 {
			to.L = make([]Value, len(from.l))
		}
		for i := range from.l {
			todo = append(todo, telling{&from.l[i], &to.L[i]})
		}
	}
	return t
}

// stuck ends where nothing is told.
func (m *machine) stuck() { m.out.Err = api.ErrStuck }

// fault ends with a fault.
func (m *machine) fault(n int) { m.out.Err, m.out.Fault = api.ErrFault, n }

// push tells what an expression came to.
func (m *machine) push(v value) { m.values = append(m.values, v) }

// pop ends the last frame, and tells it, and its parts' values.
func (m *machine) pop() (frame, []value) {
	f := m.frames[len(m.frames)-1]
	m.frames = m.frames[:len(m.frames)-1]
	l := m.values[f.base:]
	m.values = m.values[:f.base]
	return f, l
}

// then goes on with an expression, where one more name is bound.
func (m *machine) then(e *api.Core, names *binding, name string, v value) {
	m.next, m.names = e, &binding{name, v, names}
}

// begin begins the next expression: a step.
func (m *machine) begin() {
	e, names := m.next, m.names
	m.next = nil
	if m.fuel <= 0 {
		m.out.Err = api.ErrFuel
		return
	}
	m.fuel--
	if !shape.Parts(e) {
		m.stuck()
		return
	}
	switch e.Kind {
	case api.CInt:
		m.push(value{kind: VInt, n: e.N})
	case api.CText:
		m.push(value{kind: VText, s: e.S})
	case api.CVar:
		m.variable(e.S, names)
	case api.CFn:
		m.push(value{kind: VFn, fn: &function{arg: e.S, part: &e.L[0], names: names}})
	case api.CRec:
		f := &function{self: e.S, isRec: true, arg: e.T, part: &e.L[0], names: names}
		m.then(&e.L[1], names, e.S, value{kind: VFn, fn: f})
	case api.CRead:
		m.read()
	default:
		m.frames = append(m.frames, frame{e, names, len(m.values)})
	}
}

// variable tells a name's value.
func (m *machine) variable(name string, names *binding) {
	for b := names; b != nil; b = b.next {
		if b.name == name {
			m.push(b.v)
			return
		}
	}
	m.stuck()
}

// goOn begins the next part of the last frame, or tells what that comes to.
func (m *machine) goOn() {
	f := &m.frames[len(m.frames)-1]
	e, got := f.e, len(m.values)-f.base
	switch {
	case e.Kind == api.CCase && got > 0:
		m.choose(e, got)
	case e.Kind == api.CLet && got == 1:
		f, l := m.pop()
		m.then(&e.L[1], f.names, e.S, l[0])
	case e.Kind == api.CIf && got == 1:
		f, l := m.pop()
		if l[0].kind != VInt {
			m.stuck()
			return
		}
		m.next, m.names = &e.L[2], f.names
		if l[0].n != 0 {
			m.next = &e.L[1]
		}
	case got < len(e.L):
		m.next, m.names = &e.L[got], f.names
	default:
		_, l := m.pop()
		m.apply(e, l)
	}
}

// choose goes on with a CCase, of which L0, and perhaps some tags, have values.
func (m *machine) choose(e *api.Core, got int) {
	f := &m.frames[len(m.frames)-1]
	from, last, tag := m.values[f.base], m.values[len(m.values)-1], got-1
	switch {
	case from.kind != VTag, tag > 0 && last.kind != VInt:
		m.stuck()
	case tag > 0 && last.n == from.n:
		f, _ := m.pop()
		m.then(&e.L[2*tag], f.names, e.Names[tag-1], from.l[0])
	case tag < len(e.Names):
		m.next, m.names = &e.L[2*tag+1], f.names
	case e.T == "":
		m.stuck()
	default:
		f, l := m.pop()
		rest := from
		for _, v := range l[1:] {
			if v.n < from.n {
				rest.n--
			}
		}
		m.then(&e.L[len(e.L)-1], f.names, e.T, rest)
	}
}

// isTuple tells whether a value is a tuple, and another one an offset of it, or of so many places behind it.
func isTuple(t, at *value, more int) bool {
	return t.kind == VTuple && at.kind == VInt && at.n >= 0 && at.n < int64(len(t.l)+more)
}

// tuple is a tuple of new memory.
func tuple(l []value) value { return value{kind: VTuple, l: slices.Clone(l)} }

// apply tells what an expression comes to, of which all parts have.
func (m *machine) apply(e *api.Core, l []value) {
	switch e.Kind {
	case api.CTuple:
		m.push(tuple(l))
	case api.CApp:
		m.call(l[0], l[1])
	case api.CTag:
		if l[1].kind != VInt {
			m.stuck()
			return
		}
		m.push(value{kind: VTag, n: l[1].n, l: []value{l[0]}})
	case api.CSel, api.CDel, api.CIns, api.CPut:
		m.inTuple(e.Kind, l)
	case api.COp:
		m.operate(e.S, l[0], l[1])
	case api.CRef:
		m.refs = append(m.refs, l[0])
		m.push(value{kind: VRef, n: int64(len(m.refs) - 1)})
	case api.CGet, api.CSet:
		m.refer(l)
	default:
		m.tell(e.Kind, l[0])
	}
}

// call goes on with a function's part.
func (m *machine) call(f, arg value) {
	if f.kind != VFn {
		m.stuck()
		return
	}
	names := f.fn.names
	if f.fn.isRec {
		names = &binding{f.fn.self, f, names}
	}
	m.then(f.fn.part, names, f.fn.arg, arg)
}

// inTuple tells what lies in a tuple, or a tuple that is changed.
func (m *machine) inTuple(kind int, l []value) {
	from, at, more := l[0], l[1], 0
	if len(l) == 3 {
		from = l[2]
	}
	if kind == api.CIns {
		more = 1
	}
	if !isTuple(&from, &at, more) {
		m.stuck()
		return
	}
	i := int(at.n)
	switch kind {
	case api.CSel:
		m.push(from.l[i])
	case api.CDel:
		m.push(tuple(slices.Concat(from.l[:i], from.l[i+1:])))
	case api.CIns:
		m.push(tuple(slices.Concat(from.l[:i], l[:1], from.l[i:])))
	case api.CPut:
		m.push(tuple(slices.Concat(from.l[:i], l[:1], from.l[i+1:])))
	}
}

// refer tells what a reference has, or sets it, if there are two parts.
func (m *machine) refer(l []value) {
	if l[0].kind != VRef {
		m.stuck()
		return
	}
	if len(l) == 1 {
		m.push(m.refs[l[0].n])
		return
	}
	m.refs[l[0].n] = l[1]
	m.push(tuple(nil))
}
