package code

import (
	"bushel/api"
)

// more is set in each byte of a number but the last one.
const more = 128

// Put writes an image: P19.2.
func Put(m api.Image) ([]byte, error) {
	if !isSound(&m) {
		return nil, api.ErrCode
	}
	var w writer
	w.count(len(m.Ints))
	for _, n := range m.Ints {
		w.number(n)
	}
	w.count(len(m.Texts))
	for _, s := range m.Texts {
		w.count(len(s))
		w.b = append(w.b, s...)
	}
	w.count(len(m.Funs))
	for i := range m.Funs {
		w.function(&m.Funs[i])
	}
	return w.b, nil
}

// writer gathers bytes.
type writer struct {
	b []byte
}

func (w *writer) count(n int) { w.number(int64(n)) }

// number writes a number: those near 0 have few bytes, with a sign or without.
func (w *writer) number(n int64) {
	u := uint64(n) << 1
	if n < 0 {
		u = ^u
	}
	for ; u >= more; u >>= 7 {
		w.b = append(w.b, byte(u)|more)
	}
	w.b = append(w.b, byte(u))
}

func (w *writer) function(f *api.Func) {
	w.count(f.Regs)
	w.count(f.Caps)
	w.count(len(f.Code))
	for _, in := range f.Code {
		w.count(in.Op)
		w.count(in.A)
		w.count(len(in.L))
		for _, n := range in.L {
			w.count(n)
		}
	}
}

// Get reads an image: P19.2.
func Get(b []byte) (api.Image, error) {
	r := reader{b: b}
	m := r.image()
	if r.bad || len(r.b) > 0 || !isSound(&m) {
		return api.Image{}, api.ErrCode
	}
	return m, nil
}

// reader takes bytes from the front.
type reader struct {
	b   []byte
	bad bool
}

// fail notes that the bytes are no image's.
func (r *reader) fail() { r.bad, r.b = true, nil }

// number reads a number, of as few bytes as can be.
func (r *reader) number() int64 {
	var u uint64
	for i, c := range r.b {
		low := uint64(c &^ more)
		// The tenth byte has room for one bit alone; a last byte of 0 could be left out.
		if i == 9 && c > 1 || i > 0 && c == 0 {
			break
		}
		u |= low << (7 * i)
		if c < more {
			r.b = r.b[i+1:]
			return int64(u>>1) ^ -int64(u&1)
		}
	}
	r.fail()
	return 0
}

// count reads how many there are of what takes a byte each, or more: so there are no more than bytes.
func (r *reader) count() int {
	n := r.number()
	if n < 0 || n > int64(len(r.b)) {
		r.fail()
		return 0
	}
	return int(n)
}

// listed reads a list.
func listed[T any](r *reader, one func() T) []T {
	var l []T
	for range r.count() {
		if r.bad {
			return nil
		}
		l = append(l, one())
	}
	return l
}

func (r *reader) image() api.Image {
	return api.Image{Ints: listed(r, r.number), Texts: listed(r, r.text), Funs: listed(r, r.function)}
}

func (r *reader) text() string {
	n := r.count()
	s := string(r.b[:n])
	r.b = r.b[n:]
	return s
}

func (r *reader) int() int { return int(r.number()) }

func (r *reader) function() api.Func {
	return api.Func{Regs: r.int(), Caps: r.int(), Code: listed(r, r.instr)}
}

func (r *reader) instr() api.Instr {
	return api.Instr{Op: r.int(), A: r.int(), L: listed(r, r.int)}
}
