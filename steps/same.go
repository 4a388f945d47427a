package steps

import (
	"strconv"

	"bushel/arith"
)

// Call goes on with a function's part.
func (m *Machine[E]) Call(f, arg Value[E]) {
	if f.Sort != Fn {
		m.Stuck()
		return
	}
	names := f.fn.names
	if f.fn.isRec {
		names = &Names[E]{f.fn.self, f, names}
	}
	m.Bind(f.fn.part, names, f.fn.arg, arg)
}

// If goes on with one of two expressions.
func (m *Machine[E]) If(v Value[E], then, other *E, names *Names[E]) {
	switch {
	case v.Sort != Int:
		m.Stuck()
	case v.N != 0:
		m.Begin(then, names)
	default:
		m.Begin(other, names)
	}
}

// Read tells the next line.
func (m *Machine[E]) Read() {
	line, rest, fault := arith.Line(m.input)
	m.input = rest
	m.tell(Value[E]{Sort: Text, S: line}, fault, true)
}

// Print prints a text.
func (m *Machine[E]) Print(v Value[E]) {
	if v.Sort != Text {
		m.Stuck()
		return
	}
	m.Out.Trace = append(m.Out.Trace, v.S)
	m.Tell(Value[E]{Sort: Tuple})
}

// Show tells an integer's digits.
func (m *Machine[E]) Show(v Value[E]) {
	m.tell(Value[E]{Sort: Text, S: strconv.FormatInt(v.N, 10)}, 0, v.Sort == Int)
}

// Ref tells a fresh reference.
func (m *Machine[E]) Ref(v Value[E]) {
	m.refs = append(m.refs, v)
	m.Tell(Value[E]{Sort: Ref, N: int64(len(m.refs) - 1)})
}

// Has is what a reference has.
func (m *Machine[E]) Has(v Value[E]) Value[E] { return m.refs[v.N] }

// Get tells what a reference has.
func (m *Machine[E]) Get(v Value[E]) {
	if v.Sort != Ref {
		m.Stuck()
		return
	}
	m.Tell(m.Has(v))
}

// Set lets a reference have something else.
func (m *Machine[E]) Set(to, v Value[E]) {
	if to.Sort != Ref {
		m.Stuck()
		return
	}
	m.refs[to.N] = v
	m.Tell(Value[E]{Sort: Tuple})
}

// Operate tells what an operator makes of two values.
func (m *Machine[E]) Operate(s string, a, b Value[E]) {
	told, fault, is := Value[E]{Sort: Int}, 0, true
	switch {
	case s == "^" && a.Sort == Text && b.Sort == Text:
		told.Sort = Text
		told.S, fault = arith.Join(a.S, b.S)
	case s == "#" && a.Sort == Text && b.Sort == Int:
		told.N, fault = arith.Byte(a.S, b.N)
	case a.Sort == Int && b.Sort == Int:
		told.N, fault, is = arith.Ints(s, a.N, b.N)
	default:
		is = false
	}
	m.tell(told, fault, is)
}
