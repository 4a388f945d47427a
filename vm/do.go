package vm

import (
	"slices"
	"strconv"

	"bushel/api"
	"bushel/arith"
	"bushel/word"
)

// do does an instruction, but OpBack.
func (r *machine) do(f *frame, in *api.Instr) {
	switch in.Op {
	case api.OpZero:
		n, is := number(r.regs[f.base+in.L[0]])
		if !is {
			r.bad()
		} else if n == 0 {
			f.at = in.L[1]
		}
		return
	case api.OpGo:
		f.at = in.L[0]
		return
	case api.OpApp:
		r.call(r.regs[f.base+in.L[0]], r.regs[f.base+in.L[1]])
		return
	}
	base := f.base
	if w, is := r.result(in, base); is {
		r.regs[base+in.A] = w
	}
}

// call begins what a function value tells.
func (r *machine) call(w, arg word.Word) {
	l, is := r.object(w, function)
	if !is {
		r.bad()
		return
	}
	r.enter(int(l[0].V), arg, w, l[1:])
}

// registers are the words of registers.
func (r *machine) registers(base int, l []int) []word.Word {
	told := make([]word.Word, 0, len(l))
	for _, at := range l {
		told = append(told, r.regs[base+at])
	}
	return told
}

// result is what an instruction sets its register to; it tells whether there is such a thing, and ends else.
func (r *machine) result(in *api.Instr, base int) (word.Word, bool) {
	switch in.Op {
	case api.OpInt:
		return word.Int(r.image.Ints[in.L[0]]), true
	case api.OpText:
		return r.newText(r.image.Texts[in.L[0]])
	case api.OpClos:
		return r.made(function, append([]word.Word{word.Int(int64(in.L[0]))}, r.registers(base, in.L[1:])...))
	case api.OpArith:
		return r.operate(in.L[0], r.regs[base+in.L[1]], r.regs[base+in.L[2]])
	case api.OpRead:
		line, rest, fault := arith.Line(r.input)
		r.input = rest
		if r.fault(fault) {
			return word.Word{}, false
		}
		return r.newText(line)
	}
	l := r.registers(base, in.L)
	switch in.Op {
	case api.OpMove:
		return l[0], true
	case api.OpTuple:
		return r.made(tuple, l)
	case api.OpSel, api.OpIns, api.OpDel, api.OpPut:
		return r.inTuple(in.Op, l)
	case api.OpTag, api.OpIs, api.OpOf, api.OpLower:
		return r.withTag(in.Op, l)
	case api.OpRef:
		return r.made(reference, l)
	case api.OpGet, api.OpSet:
		return r.refer(l)
	}
	return r.tell(in.Op, l[0])
}

// fails ends with ErrCode, and tells nothing.
func (r *machine) fails() (word.Word, bool) {
	r.bad()
	return word.Word{}, false
}

// newText makes a text.
func (r *machine) newText(s string) (word.Word, bool) { return r.made(text, word.Pack([]byte(s))) }

// inTuple tells what lies in a tuple, or makes one that is changed.
func (r *machine) inTuple(op int, l []word.Word) (word.Word, bool) {
	from, most := l[0], 0
	if len(l) == 3 {
		from = l[2]
	}
	if op == api.OpIns {
		most = 1
	}
	parts, is := r.object(from, tuple)
	at, isNumber := number(l[1])
	if !is || !isNumber || at < 0 || at >= int64(len(parts)+most) {
		return r.fails()
	}
	i := int(at)
	switch op {
	case api.OpSel:
		return parts[i], true
	case api.OpDel:
		return r.made(tuple, slices.Delete(parts, i, i+1))
	case api.OpIns:
		return r.made(tuple, slices.Insert(parts, i, l[0]))
	}
	parts[i] = l[0]
	return r.made(tuple, parts)
}

// withTag makes a tagged value, or tells of one.
func (r *machine) withTag(op int, l []word.Word) (word.Word, bool) {
	if op == api.OpTag {
		if _, is := number(l[1]); !is {
			return r.fails()
		}
		return r.made(tagged, []word.Word{l[1], l[0]})
	}
	parts, is := r.object(l[0], tagged)
	if !is {
		return r.fails()
	}
	tag, below, equal := parts[0].V, int64(0), int64(0)
	for _, w := range l[1:] {
		n, is := number(w)
		if !is {
			return r.fails()
		}
		if n < tag {
			below++
		}
		if n == tag {
			equal = 1
		}
	}
	switch op {
	case api.OpIs:
		return word.Int(equal), true
	case api.OpOf:
		return parts[1], true
	}
	return r.made(tagged, []word.Word{word.Int(tag - below), parts[1]})
}

// refer tells what a reference has, or sets it, if there are two words.
func (r *machine) refer(l []word.Word) (word.Word, bool) {
	parts, is := r.object(l[0], reference)
	if !is {
		return r.fails()
	}
	if len(l) == 1 {
		return parts[0], true
	}
	place, _ := word.Moved(l[0])
	if r.heap.Set(place, 0, l[1]) != nil {
		return r.fails()
	}
	return r.made(tuple, nil)
}

// tell prints, or shows.
func (r *machine) tell(op int, w word.Word) (word.Word, bool) {
	if op == api.OpShow {
		n, is := number(w)
		if !is {
			return r.fails()
		}
		return r.newText(strconv.FormatInt(n, 10))
	}
	s, is := r.text(w)
	if !is {
		return r.fails()
	}
	r.out.Trace = append(r.out.Trace, s)
	return r.made(tuple, nil)
}

// Numbers of operators on texts.
const (
	join   = 6
	byteAt = 7
)

// operator is the sign of an operator on integers.
func operator(n int) string {
	switch n {
	case 0:
		return "+"
	case 1:
		return "-"
	case 2:
		return "*"
	case 3:
		return "/"
	case 4:
		return "<"
	}
	return "=="
}

// operate tells what an operator makes of two words.
func (r *machine) operate(op int, a, b word.Word) (word.Word, bool) {
	if op == join || op == byteAt {
		return r.operateText(op, a, b)
	}
	x, isX := number(a)
	y, isY := number(b)
	if !isX || !isY {
		return r.fails()
	}
	n, fault, _ := arith.Ints(operator(op), x, y)
	return word.Int(n), !r.fault(fault)
}

// operateText is that of operators on texts.
func (r *machine) operateText(op int, a, b word.Word) (word.Word, bool) {
	s, is := r.text(a)
	if !is {
		return r.fails()
	}
	if op == byteAt {
		at, is := number(b)
		if !is {
			return r.fails()
		}
		n, fault := arith.Byte(s, at)
		return word.Int(n), !r.fault(fault)
	}
	other, is := r.text(b)
	if !is {
		return r.fails()
	}
	both, fault := arith.Join(s, other)
	if r.fault(fault) {
		return word.Word{}, false
	}
	return r.newText(both)
}
