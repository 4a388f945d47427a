package model

import (
	"slices"
	"strconv"
	"strings"

	"bushel/api"
	"bushel/steps"
	"bushel/tell"
)

// apply tells what an expression comes to, of which all parts have.
func (m machine) apply(e *api.Expr, l []value) {
	switch e.Kind {
	case api.App:
		m.Call(l[0], l[1])
	case api.Record:
		m.Tell(recordOf(e.Labels, l))
	case api.Sel, api.Cut:
		m.take(e, l[0])
	case api.Ext, api.Upd:
		m.put(e, l[1], l[0])
	case api.Tag:
		m.Tell(value{Sort: steps.Tag, S: e.S, L: []value{l[0]}})
	case api.Op:
		m.Operate(e.S, l[0], l[1])
	case api.Ref:
		m.Ref(l[0])
	case api.Get:
		m.Get(l[0])
	case api.Set:
		m.Set(l[0], l[1])
	case api.Print:
		m.Print(l[0])
	case api.Show:
		m.Show(l[0])
	}
}

// recordOf is a record: of a label that stands twice the later value counts.
func recordOf(labels []string, l []value) value {
	order := make([]int, len(labels))
	for i := range order {
		order[i] = i
	}
	slices.SortStableFunc(order, func(i, j int) int { return strings.Compare(labels[i], labels[j]) })
	told := value{Sort: steps.Tuple}
	for k, i := range order {
		if k+1 < len(order) && labels[order[k+1]] == labels[i] {
			continue
		}
		told.Labels, told.L = append(told.Labels, labels[i]), append(told.L, l[i])
	}
	return told
}

// take tells a label's value, or the record without it.
func (m machine) take(e *api.Expr, from value) {
	at, is := slices.BinarySearch(from.Labels, e.S)
	switch {
	case from.Sort != steps.Tuple || !is:
		m.Stuck()
	case e.Kind == api.Sel:
		m.Tell(from.L[at])
	default:
		m.Tell(value{
			Sort:   steps.Tuple,
			Labels: slices.Concat(from.Labels[:at], from.Labels[at+1:]),
			L:      slices.Concat(from.L[:at], from.L[at+1:]),
		})
	}
}

// put tells a record with a label's value: an Ext's record doesn't have it, an Upd's has it.
func (m machine) put(e *api.Expr, to, v value) {
	at, is := slices.BinarySearch(to.Labels, e.S)
	if to.Sort != steps.Tuple || is != (e.Kind == api.Upd) {
		m.Stuck()
		return
	}
	behind := at
	if is {
		behind++
	}
	m.Tell(value{
		Sort:   steps.Tuple,
		Labels: slices.Concat(to.Labels[:at], []string{e.S}, to.Labels[behind:]),
		L:      slices.Concat(to.L[:at], []value{v}, to.L[behind:]),
	})
}

// text is a value's text.
func (m machine) text(v value) string {
	var w tell.Writer
	m.write(&w, v)
	return w.String()
}

// write writes a value, as long as there is room: a reference may have itself.
func (m machine) write(w *tell.Writer, v value) {
	if w.Full() {
		return
	}
	switch v.Sort {
	case steps.Int:
		w.Say(strconv.FormatInt(v.N, 10))
	case steps.Text:
		w.Quote(v.S)
	case steps.Fn:
		w.Say("fn")
	case steps.Tuple:
		w.Fields(v.Labels, func(i int) { m.write(w, v.L[i]) })
	case steps.Tag:
		w.Say(v.S, " ")
		w.Part(v.L[0].Sort == steps.Tag, func() { m.write(w, v.L[0]) })
	case steps.Ref:
		has := m.Has(v)
		w.Say("ref ")
		w.Part(has.Sort == steps.Tag || has.Sort == steps.Ref, func() { m.write(w, has) })
	}
}
