package core

import (
	"strconv"

	"bushel/api"
	"bushel/arith"
)

// tell prints, or shows.
func (m *machine) tell(kind int, v value) {
	switch {
	case kind == api.CPrint && v.kind == VText:
		m.out.Trace = append(m.out.Trace, v.s)
		m.push(tuple(nil))
	case kind == api.CShow && v.kind == VInt:
		m.push(value{kind: VText, s: strconv.FormatInt(v.n, 10)})
	default:
		m.stuck()
	}
}

// operate tells what an operator makes of two values.
func (m *machine) operate(s string, a, b value) {
	told, fault, is := value{kind: VInt}, 0, true
	switch {
	case s == "^" && a.kind == VText && b.kind == VText:
		told.kind = VText
		told.s, fault = arith.Join(a.s, b.s)
	case s == "#" && a.kind == VText && b.kind == VInt:
		told.n, fault = arith.Byte(a.s, b.n)
	case a.kind == VInt && b.kind == VInt:
		told.n, fault, is = arith.Ints(s, a.n, b.n)
	default:
		is = false
	}
	m.end(told, fault, is)
}

// end tells a value, or faults, or is stuck.
func (m *machine) end(v value, fault int, is bool) {
	switch {
	case !is:
		m.stuck()
	case fault != 0:
		m.fault(fault)
	default:
		m.push(v)
	}
}

// read tells the next line.
func (m *machine) read() {
	line, rest, fault := arith.Line(m.input)
	m.input = rest
	m.end(value{kind: VText, s: line}, fault, true)
}
