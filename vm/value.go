package vm

import (
	"strconv"

	"bushel/api"
	"bushel/tell"
	"bushel/word"
)

// value is a value's text, by a type; what isn't of that type ends with ErrCode, and no text.
func (r *machine) value(w word.Word, t *api.Type) string {
	var to tell.Writer
	r.write(&to, w, t)
	if r.out.Err != 0 {
		return ""
	}
	return to.String()
}

// write writes a value, as long as there is room.
func (r *machine) write(to *tell.Writer, w word.Word, t *api.Type) {
	if to.Full() || r.out.Err != 0 {
		return
	}
	switch t.Kind {
	case api.TInt:
		n, is := number(w)
		if !is {
			r.bad()
			return
		}
		to.Say(strconv.FormatInt(n, 10))
	case api.TText:
		s, is := r.text(w)
		if !is {
			r.bad()
			return
		}
		to.Quote(s)
	case api.TRec:
		r.fields(to, w, t)
	case api.TSum:
		r.tag(to, w, t)
	case api.TRef:
		l, is := r.object(w, reference)
		if !is {
			r.bad()
			return
		}
		to.Say("ref ")
		of := &t.L[0]
		to.Part(of.Kind == api.TSum || of.Kind == api.TRef, func() { r.write(to, l[0], of) })
	default:
		to.Say("fn")
	}
}

// tag writes a tagged value.
func (r *machine) tag(to *tell.Writer, w word.Word, t *api.Type) {
	l, is := r.object(w, tagged)
	if !is || l[0].V < 0 || l[0].V >= int64(len(t.Labels)) {
		r.bad()
		return
	}
	of := &t.L[l[0].V]
	to.Say(t.Labels[l[0].V], " ")
	to.Part(of.Kind == api.TSum, func() { r.write(to, l[1], of) })
}

// fields writes a record.
func (r *machine) fields(to *tell.Writer, w word.Word, t *api.Type) {
	l, is := r.object(w, tuple)
	if !is || len(l) != len(t.Labels) {
		r.bad()
		return
	}
	to.Fields(t.Labels, func(i int) { r.write(to, l[i], &t.L[i]) })
}
