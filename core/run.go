package core

import (
	"slices"

	"bushel/api"
	"bushel/shape"
	"bushel/steps"
)

type (
	value = steps.Value[api.Core]
	names = steps.Names[api.Core]
	frame = steps.Frame[api.Core]
)

// machine runs core expressions.
type machine struct {
	*steps.Machine[api.Core]
}

// Run runs an expression: P14.1.
func Run(e api.Core, input []string, fuel int) (Value, api.Out) {
	m := machine{steps.New[api.Core](input, fuel)}
	last := m.Run(&e, m.begin, m.goOn)
	if m.Out.Err != 0 {
		return Value{}, m.Out
	}
	return told(&last), m.Out
}

// telling is a value, and where it is told.
type telling struct {
	from *value
	to   *Value
}

// told is a value as it is handed out: a function is told as such alone. Tuples may lie deep in tuples, so it is told without Go's own stack.
func told(v *value) Value {
	var t Value
	for todo := []telling{{v, &t}}; len(todo) > 0; {
		next := todo[len(todo)-1]
		todo = todo[:len(todo)-1]
		from, to := next.from, next.to
		*to = Value{Kind: from.Sort, N: from.N, S: from.S}
		if len(from.L) > 0 {
			to.L = make([]Value, len(from.L))
		}
		for i := range from.L {
			todo = append(todo, telling{&from.L[i], &to.L[i]})
		}
	}
	return t
}

// begin begins an expression.
func (m machine) begin(e *api.Core, names *names) {
	if !shape.Parts(e) {
		m.Stuck()
		return
	}
	switch e.Kind {
	case api.CInt:
		m.Tell(value{Sort: steps.Int, N: e.N})
	case api.CText:
		m.Tell(value{Sort: steps.Text, S: e.S})
	case api.CVar:
		m.Name(e.S, names)
	case api.CFn:
		m.Tell(steps.Lambda(e.S, &e.L[0], names))
	case api.CRec:
		m.Bind(&e.L[1], names, e.S, steps.Named(e.S, e.T, &e.L[0], names))
	case api.CRead:
		m.Read()
	default:
		m.Wait(e, names)
	}
}

// goOn begins the next part of an expression, or tells what that comes to.
func (m machine) goOn(f frame, l []value) {
	e, got := f.E, len(l)
	switch {
	case e.Kind == api.CCase && got > 0:
		m.choose(f, l)
	case e.Kind == api.CLet && got == 1:
		m.End()
		m.Bind(&e.L[1], f.Names, e.S, l[0])
	case e.Kind == api.CIf && got == 1:
		m.End()
		m.If(l[0], &e.L[1], &e.L[2], f.Names)
	case got < len(e.L):
		m.Begin(&e.L[got], f.Names)
	default:
		m.End()
		m.apply(e, l)
	}
}

// choose goes on with a CCase, of which L0, and perhaps some tags, have values.
func (m machine) choose(f frame, l []value) {
	e, from, last, tag := f.E, l[0], l[len(l)-1], len(l)-1
	switch {
	case from.Sort != steps.Tag, tag > 0 && last.Sort != steps.Int:
		m.Stuck()
	case tag > 0 && last.N == from.N:
		m.End()
		m.Bind(&e.L[2*tag], f.Names, e.Names[tag-1], from.L[0])
	case tag < len(e.Names):
		m.Begin(&e.L[2*tag+1], f.Names)
	case e.T == "":
		m.Stuck()
	default:
		m.End()
		rest := from
		for _, v := range l[1:] {
			if v.N < from.N {
				rest.N--
			}
		}
		m.Bind(&e.L[len(e.L)-1], f.Names, e.T, rest)
	}
}

// tuple is a tuple of new memory.
func tuple(l []value) value { return value{Sort: steps.Tuple, L: slices.Clone(l)} }

// apply tells what an expression comes to, of which all parts have.
func (m machine) apply(e *api.Core, l []value) {
	switch e.Kind {
	case api.CTuple:
		m.Tell(tuple(l))
	case api.CApp:
		m.Call(l[0], l[1])
	case api.CTag:
		if l[1].Sort != steps.Int {
			m.Stuck()
			return
		}
		m.Tell(value{Sort: steps.Tag, N: l[1].N, L: []value{l[0]}})
	case api.CSel, api.CDel, api.CIns, api.CPut:
		m.inTuple(e.Kind, l)
	case api.COp:
		m.Operate(e.S, l[0], l[1])
	case api.CRef:
		m.Ref(l[0])
	case api.CGet:
		m.Get(l[0])
	case api.CSet:
		m.Set(l[0], l[1])
	case api.CPrint:
		m.Print(l[0])
	case api.CShow:
		m.Show(l[0])
	}
}

// isTuple tells whether a value is a tuple, and another one an offset of it, or of so many places behind it.
func isTuple(t, at *value, more int) bool {
	return t.Sort == steps.Tuple && at.Sort == steps.Int && at.N >= 0 && at.N < int64(len(t.L)+more)
}

// inTuple tells what lies in a tuple, or a tuple that is changed.
func (m machine) inTuple(kind int, l []value) {
	from, at, more := l[0], l[1], 0
	if len(l) == 3 {
		from = l[2]
	}
	if kind == api.CIns {
		more = 1
	}
	if !isTuple(&from, &at, more) {
		m.Stuck()
		return
	}
	i := int(at.N)
	switch kind {
	case api.CSel:
		m.Tell(from.L[i])
	case api.CDel:
		m.Tell(tuple(slices.Concat(from.L[:i], from.L[i+1:])))
	case api.CIns:
		m.Tell(tuple(slices.Concat(from.L[:i], l[:1], from.L[i:])))
	case api.CPut:
		m.Tell(tuple(slices.Concat(from.L[:i], l[:1], from.L[i+1:])))
	}
}
