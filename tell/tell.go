// Package tell writes values' texts, as far as they are told.
package tell

import "bushel/api"

// Writer gathers the first MaxText bytes of what is said.
type Writer struct {
	b []byte
}

// Say writes texts.
func (w *Writer) Say(l ...string) {
	for _, s := range l {
		w.b = append(w.b, s[:min(len(s), api.MaxText-len(w.b))]...)
	}
}

// Full tells whether nothing more is told.
func (w *Writer) Full() bool { return len(w.b) == api.MaxText }

// String is what was gathered.
func (w *Writer) String() string { return string(w.b) }

// Quote writes a text as a value: bytes that no token may have are left out.
func (w *Writer) Quote(s string) {
	w.Say(`"`)
	for i := range len(s) {
		switch c := s[i]; {
		case c == '\n':
			w.Say(`\n`)
		case c == '"' || c == '\\':
			w.Say(`\`, s[i:i+1])
		case ' ' <= c && c <= '~':
			w.Say(s[i : i+1])
		}
	}
	w.Say(`"`)
}

// Part writes a part of a value, in brackets, if it needs them.
func (w *Writer) Part(brackets bool, write func()) {
	if !brackets {
		write()
		return
	}
	w.Say("(")
	write()
	w.Say(")")
}

// Fields writes a record's labels, and their values, as long as there is room.
func (w *Writer) Fields(labels []string, write func(i int)) {
	w.Say("{")
	for i, s := range labels {
		if w.Full() {
			return
		}
		if i > 0 {
			w.Say(", ")
		}
		w.Say(s, " = ")
		write(i)
	}
	w.Say("}")
}
