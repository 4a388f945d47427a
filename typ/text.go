package typ

import (
	"slices"
	"strconv"
	"strings"

	"bushel/api"
)

// Text is its text: P10.1.
func Text(t api.Type) string {
	if !May(t) {
		return ""
	}
	types, rows := Vars(t)
	w := writer{types: places(types), rows: places(rows)}
	w.whole(&t)
	return w.String()
}

// places are the numbers in a list, by what stands there.
func places(l []int) map[int]int {
	told := map[int]int{}
	for i, n := range l {
		told[n] = i
	}
	return told
}

// writer gathers a text.
type writer struct {
	strings.Builder
	types map[int]int // a variable's number in the text
	rows  map[int]int
}

// say writes texts.
func (w *writer) say(l ...string) {
	for _, s := range l {
		w.WriteString(s)
	}
}

// part writes a type, in brackets if it is one of some kinds.
func (w *writer) part(t *api.Type, kinds ...int) {
	if !slices.Contains(kinds, t.Kind) {
		w.whole(t)
		return
	}
	w.say("(")
	w.whole(t)
	w.say(")")
}

// whole writes a type.
func (w *writer) whole(t *api.Type) {
	switch t.Kind {
	case api.TInt:
		w.say("int")
	case api.TText:
		w.say("text")
	case api.TVar:
		w.say("'", strconv.Itoa(w.types[t.N]))
	case api.TRef:
		w.say("ref ")
		w.part(&t.L[0], api.TFn, api.TRef)
	case api.TFn:
		w.part(&t.L[0], api.TFn)
		w.say(" -> ")
		w.whole(&t.L[1])
	case api.TRec:
		w.row(t, "{", "}")
	case api.TSum:
		w.row(t, "<", ">")
	}
}

// row writes a row, between two signs.
func (w *writer) row(t *api.Type, begin, end string) {
	w.say(begin)
	for i, s := range t.Labels {
		if i > 0 {
			w.say(", ")
		}
		w.say(s, " : ")
		w.whole(&t.L[i])
	}
	if t.Tail >= 0 {
		if len(t.Labels) > 0 {
			w.say(" | ")
		}
		w.say("..", strconv.Itoa(w.rows[t.Tail]))
	}
	w.say(end)
}
