package model

import (
	"slices"
	"strconv"
	"strings"

	"bushel/api"
	"bushel/arith"
	"bushel/tell"
)

// apply tells what an expression comes to, of which all parts have.
func (m *machine) apply(e *api.Expr, l []value) {
	switch e.Kind {
	case api.App:
		m.call(l[0], l[1])
	case api.Record:
		m.push(recordOf(e.Labels, l))
	case api.Sel, api.Cut:
		m.take(e, l[0])
	case api.Ext, api.Upd:
		m.put(e, l[1], l[0])
	case api.Tag:
		m.push(value{sort: tagged, s: e.S, l: []value{l[0]}})
	case api.Op:
		m.operate(e.S, l[0], l[1])
	case api.Ref:
		m.refs = append(m.refs, l[0])
		m.push(value{sort: reference, n: int64(len(m.refs) - 1)})
	case api.Get, api.Set:
		m.refer(l)
	default:
		m.tell(e.Kind, l[0])
	}
}

// recordOf is a record: of a label that stands twice the later value counts.
func recordOf(labels []string, l []value) value {
	order := make([]int, len(labels))
	for i := range order {
		order[i] = i
	}
	slices.SortStableFunc(order, func(i, j int) int { return strings.Compare(labels[i], labels[j]) })
	told := value{sort: record}
	for k, i := range order {
		if k+1 < len(order) && labels[order[k+1]] == labels[i] {
			continue
		}
		told.labels, told.l = append(told.labels, labels[i]), append(told.l, l[i])
	}
	return told
}

// take tells a label's value, or the record without it.
func (m *machine) take(e *api.Expr, from value) {
	at, is := slices.BinarySearch(from.labels, e.S)
	switch {
	case from.sort != record || !is:
		m.stuck()
	case e.Kind == api.Sel:
		m.push(from.l[at])
	default:
		m.push(value{
			sort:   record,
			labels: slices.Concat(from.labels[:at], from.labels[at+1:]),
			l:      slices.Concat(from.l[:at], from.l[at+1:]),
		})
	}
}

// put tells a record with a label's value: an Ext's record doesn't have it, an Upd's has it.
func (m *machine) put(e *api.Expr, to, v value) {
	at, is := slices.BinarySearch(to.labels, e.S)
	if to.sort != record || is != (e.Kind == api.Upd) {
		m.stuck()
		return
	}
	behind := at
	if is {
		behind++
	}
	m.push(value{
		sort:   record,
		labels: slices.Concat(to.labels[:at], []string{e.S}, to.labels[behind:]),
		l:      slices.Concat(to.l[:at], []value{v}, to.l[behind:]),
	})
}

// refer tells what a reference has, or sets it, if there are two parts.
func (m *machine) refer(l []value) {
	if l[0].sort != reference {
		m.stuck()
		return
	}
	if len(l) == 1 {
		m.push(m.refs[l[0].n])
		return
	}
	m.refs[l[0].n] = l[1]
	m.push(value{sort: record})
}

// tell prints, or shows.
func (m *machine) tell(kind int, v value) {
	switch {
	case kind == api.Print && v.sort == text:
		m.out.Trace = append(m.out.Trace, v.s)
		m.push(value{sort: record})
	case kind == api.Show && v.sort == integer:
		m.push(value{sort: text, s: strconv.FormatInt(v.n, 10)})
	default:
		m.stuck()
	}
}

// read tells the next line.
func (m *machine) read() {
	line, rest, fault := arith.Line(m.input)
	m.input = rest
	m.end(value{sort: text, s: line}, fault, true)
}

// operate tells what an operator makes of two values.
func (m *machine) operate(s string, a, b value) {
	told, fault, is := value{sort: integer}, 0, true
	switch {
	case s == "^" && a.sort == text && b.sort == text:
		told.sort = text
		told.s, fault = arith.Join(a.s, b.s)
	case s == "#" && a.sort == text && b.sort == integer:
		told.n, fault = arith.Byte(a.s, b.n)
	case a.sort == integer && b.sort == integer:
		told.n, fault, is = arith.Ints(s, a.n, b.n)
	default:
		is = false
	}
	m.end(told, fault, is)
}

// text is a value's text.
func (m *machine) text(v *value) string {
	var w tell.Writer
	m.write(&w, v)
	return w.String()
}

// write writes a value, as long as there is room: a reference may have itself.
func (m *machine) write(w *tell.Writer, v *value) {
	if w.Full() {
		return
	}
	switch v.sort {
	case integer:
		w.Say(strconv.FormatInt(v.n, 10))
	case text:
		w.Quote(v.s)
	case function:
		w.Say("fn")
	case record:
		m.fields(w, v)
	case tagged:
		w.Say(v.s, " ")
		m.part(w, &v.l[0], v.l[0].sort == tagged)
	case reference:
		has := &m.refs[v.n]
		w.Say("ref ")
		m.part(w, has, has.sort == tagged || has.sort == reference)
	}
}

// part writes a value, in brackets, if it needs them.
func (m *machine) part(w *tell.Writer, v *value, brackets bool) {
	if !brackets {
		m.write(w, v)
		return
	}
	w.Say("(")
	m.write(w, v)
	w.Say(")")
}

// fields writes a record.
func (m *machine) fields(w *tell.Writer, v *value) {
	w.Say("{")
	for i, s := range v.labels {
		if w.Full() {
			return
		}
		if i > 0 {
			w.Say(", ")
		}
		w.Say(s, " = ")
		m.write(w, &v.l[i])
	}
	w.Say("}")
}
