package core

import (
	"strconv"

	"bushel/api"
)

// tell prints, or shows.
func (m *machine) tell(kind int, v value) {
	switch {
	case kind == api.CPrint && v.kind == VText:
		m.out.Trace = append(m.out.Trace, v.s)
		m.push(tuple(nil))
	case kind == api.CShow && v.kind == VInt:
		m.push(value{kind: VText, s: strconv.FormatInt(v.n, 10)})
	default:
		m.stuck()
	}
}

// operate tells what an operator makes of two values.
func (m *machine) operate(s string, a, b value) {
	switch {
	case s == "^" && a.kind == VText && b.kind == VText:
		if len(a.s)+len(b.s) > api.MaxText {
			m.fault(api.IndexRange)
			return
		}
		m.push(value{kind: VText, s: a.s + b.s})
	case s == "#" && a.kind == VText && b.kind == VInt:
		if b.n < 0 || b.n >= int64(len(a.s)) {
			m.fault(api.IndexRange)
			return
		}
		m.push(value{kind: VInt, n: int64(a.s[b.n])})
	case s != "^" && s != "#" && a.kind == VInt && b.kind == VInt:
		m.compute(s, a.n, b.n)
	default:
		m.stuck()
	}
}

// compute tells what an operator makes of two integers.
func (m *machine) compute(s string, a, b int64) {
	switch s {
	case "+":
		a += b
	case "-":
		a -= b
	case "*":
		a *= b
	case "/":
		if b == 0 {
			m.fault(api.DivZero)
			return
		}
		a /= b
	case "<":
		a = truth(a < b)
	case "==":
		a = truth(a == b)
	default:
		m.stuck()
		return
	}
	m.push(value{kind: VInt, n: a})
}

// truth is 1 or 0.
func truth(is bool) int64 {
	if is {
		return 1
	}
	return 0
}
