// Package steps runs expressions step by step, for the layers that tell what they come to: it holds what is the same
// whether they have labels or not. It runs without Go's own stack, so that it may go as deep as there is fuel.
package steps

import "bushel/api"

// Sorts of values.
const (
	Int   = 1
	Text  = 2
	Fn    = 3
	Tuple = 4
	Tag   = 5
	Ref   = 6
)

// Value is a value as it runs.
type Value[E any] struct {
	Sort   int
	N      int64    // of an integer; a tag's, where tags are numbers; a reference's
	S      string   // a text; a tag's, where tags are names
	Labels []string // of a tuple's parts, where there are labels
	L      []Value[E]
	fn     *function[E]
}

// function is a function, where its names have values.
type function[E any] struct {
	self  string // its own name, if it has one
	isRec bool
	arg   string
	part  *E
	names *Names[E]
}

// Names are a name's value, ahead of those that were bound before.
type Names[E any] struct {
	name string
	v    Value[E]
	next *Names[E]
}

// Frame is an expression of which some parts have come to values; these stand from its base on.
type Frame[E any] struct {
	E     *E
	Names *Names[E]
	base  int
}

// Machine runs an expression.
type Machine[E any] struct {
	Out    api.Out // where it isn't without an error it has ended
	input  []string
	fuel   int
	refs   []Value[E]
	values []Value[E]
	frames []Frame[E]
	next   *E // what is begun next, if anything is
	names  *Names[E]
}

// New is a machine that has an input, and fuel.
func New[E any](input []string, fuel int) *Machine[E] { return &Machine[E]{input: input, fuel: fuel} }

// Run tells what an expression comes to, if there is no error. How one is begun, which is a step, and how one goes on
// of which some parts have values, is told by functions.
func (m *Machine[E]) Run(e *E, begin func(e *E, names *Names[E]), goOn func(f Frame[E], l []Value[E])) Value[E] {
	m.Begin(e, nil)
	for m.Out.Err == 0 && (m.next != nil || len(m.frames) > 0) {
		if m.next == nil {
			last := m.frames[len(m.frames)-1]
			goOn(last, m.values[last.base:])
			continue
		}
		if m.fuel <= 0 {
			m.Out.Err = api.ErrFuel
			break
		}
		m.fuel--
		e, names := m.next, m.names
		m.next = nil
		begin(e, names)
	}
	if m.Out.Err != 0 {
		return Value[E]{}
	}
	return m.values[0]
}

// Begin goes on with an expression.
func (m *Machine[E]) Begin(e *E, names *Names[E]) { m.next, m.names = e, names }

// Bind goes on with an expression, where one more name is bound.
func (m *Machine[E]) Bind(e *E, names *Names[E], name string, v Value[E]) {
	m.Begin(e, &Names[E]{name, v, names})
}

// Wait lets an expression wait for its parts' values.
func (m *Machine[E]) Wait(e *E, names *Names[E]) {
	m.frames = append(m.frames, Frame[E]{e, names, len(m.values)})
}

// End ends the last expression that waits: what stands of its parts' values is good till the next value is told.
func (m *Machine[E]) End() {
	last := len(m.frames) - 1
	m.values = m.values[:m.frames[last].base]
	m.frames = m.frames[:last]
}

// Tell tells what an expression came to.
func (m *Machine[E]) Tell(v Value[E]) { m.values = append(m.values, v) }

// Stuck ends where nothing is told.
func (m *Machine[E]) Stuck() { m.Out.Err = api.ErrStuck }

// tell tells a value, or faults, or is stuck.
func (m *Machine[E]) tell(v Value[E], fault int, is bool) {
	switch {
	case !is:
		m.Stuck()
	case fault != 0:
		m.Out.Err, m.Out.Fault = api.ErrFault, fault
	default:
		m.Tell(v)
	}
}

// Name tells a name's value.
func (m *Machine[E]) Name(name string, names *Names[E]) {
	for b := names; b != nil; b = b.next {
		if b.name == name {
			m.Tell(b.v)
			return
		}
	}
	m.Stuck()
}

// Lambda is a function without a name of its own.
func Lambda[E any](arg string, part *E, names *Names[E]) Value[E] {
	return Value[E]{Sort: Fn, fn: &function[E]{arg: arg, part: part, names: names}}
}

// Named is a function that has a name of its own.
func Named[E any](self, arg string, part *E, names *Names[E]) Value[E] {
	return Value[E]{Sort: Fn, fn: &function[E]{self: self, isRec: true, arg: arg, part: part, names: names}}
}
