package gen_test

import (
	"strconv"

	"bushel/api"
	"bushel/core"
)

// Values of the machine below.
type (
	function struct {
		n    int
		caps []any
	}
	tuple  []any
	tagged struct {
		n int64
		v any
	}
	reference struct {
		n int
		v any
	}
)

// frame is a function that runs.
type frame struct {
	fun  *api.Func
	at   int
	regs []any
}

// machine does instructions as chapter 19 tells of them, with values as they come: what isn't of the sort that is asked for panics.
type machine struct {
	m      api.Image
	input  []string
	fuel   int
	out    api.Out
	refs   int
	frames []frame
}

// run runs an image, and tells a value as core.Run does.
func run(m api.Image, input []string, fuel int) (v core.Value, out api.Out, used int) {
	r := machine{m: m, input: input, fuel: fuel}
	defer func() {
		if recover() != nil {
			v, out, used = core.Value{}, api.Out{Err: api.ErrCode, Trace: r.out.Trace}, fuel-r.fuel
		}
	}()
	r.enter(0, int64(0), int64(0), nil)
	for {
		f := &r.frames[len(r.frames)-1]
		in := f.fun.Code[f.at]
		if r.fuel == 0 {
			r.out.Err = api.ErrFuel
			return core.Value{}, r.out, fuel
		}
		r.fuel--
		f.at++
		if in.Op == api.OpBack {
			last := f.regs[in.L[0]]
			if len(r.frames) == 1 {
				return told(last), r.out, fuel - r.fuel
			}
			r.frames = r.frames[:len(r.frames)-1]
			up := &r.frames[len(r.frames)-1]
			up.regs[up.fun.Code[up.at-1].A] = last
			continue
		}
		if fault := r.do(f, in); fault != 0 {
			r.out.Err, r.out.Fault = api.ErrFault, fault
			return core.Value{}, r.out, fuel - r.fuel
		}
	}
}

func (r *machine) enter(n int, arg, self any, caps []any) {
	f := &r.m.Funs[n]
	regs := make([]any, f.Regs)
	for i := range regs {
		regs[i] = int64(0)
	}
	regs[0], regs[1] = arg, self
	copy(regs[2:2+f.Caps], caps)
	r.frames = append(r.frames, frame{f, 0, regs})
}

// told is a value as core.Run tells it.
func told(v any) core.Value {
	switch v := v.(type) {
	case int64:
		return core.Value{Kind: core.VInt, N: v}
	case string:
		return core.Value{Kind: core.VText, S: v}
	case *function:
		return core.Value{Kind: core.VFn}
	case tuple:
		t := core.Value{Kind: core.VTuple}
		for _, part := range v {
			t.L = append(t.L, told(part))
		}
		return t
	case tagged:
		return core.Value{Kind: core.VTag, N: v.n, L: []core.Value{told(v.v)}}
	}
	return core.Value{Kind: core.VRef, N: int64(v.(*reference).n)}
}

func (r *machine) do(f *frame, in api.Instr) int {
	reg := func(i int) any { return f.regs[in.L[i]] }
	num := func(i int) int64 { return reg(i).(int64) }
	var a any
	switch in.Op {
	case api.OpInt:
		a = r.m.Ints[in.L[0]]
	case api.OpText:
		a = r.m.Texts[in.L[0]]
	case api.OpMove:
		a = reg(0)
	case api.OpClos:
		c := &function{n: in.L[0]}
		for i := range in.L[1:] {
			c.caps = append(c.caps, reg(i+1))
		}
		a = c
	case api.OpTuple:
		t := tuple{}
		for i := range in.L {
			t = append(t, reg(i))
		}
		a = t
	case api.OpSel:
		a = reg(0).(tuple)[num(1)]
	case api.OpIns:
		t, at := reg(2).(tuple), num(1)
		a = append(append(append(tuple{}, t[:at]...), reg(0)), t[at:len(t)]...)
	case api.OpDel:
		t, at := reg(0).(tuple), num(1)
		_ = t[at]
		a = append(append(tuple{}, t[:at]...), t[at+1:]...)
	case api.OpPut:
		t := append(tuple{}, reg(2).(tuple)...)
		t[num(1)] = reg(0)
		a = t
	case api.OpTag:
		a = tagged{num(1), reg(0)}
	case api.OpApp:
		c := reg(0).(*function)
		r.enter(c.n, reg(1), c, c.caps)
		return 0
	case api.OpZero:
		if num(0) == 0 {
			f.at = in.L[1]
		}
		return 0
	case api.OpGo:
		f.at = in.L[0]
		return 0
	default:
		var fault int
		if a, fault = r.more(in, reg, num); fault != 0 {
			return fault
		}
	}
	f.regs[in.A] = a
	return 0
}

func (r *machine) more(in api.Instr, reg func(int) any, num func(int) int64) (any, int) {
	switch in.Op {
	case api.OpArith:
		return arith(in.L[0], reg(1), reg(2))
	case api.OpRef:
		r.refs++
		return &reference{r.refs - 1, reg(0)}, 0
	case api.OpGet:
		return reg(0).(*reference).v, 0
	case api.OpSet:
		reg(0).(*reference).v = reg(1)
		return tuple{}, 0
	case api.OpPrint:
		r.out.Trace = append(r.out.Trace, reg(0).(string))
		return tuple{}, 0
	case api.OpShow:
		return strconv.FormatInt(num(0), 10), 0
	case api.OpRead:
		if len(r.input) == 0 {
			return nil, api.InputEnd
		}
		s := r.input[0]
		r.input = r.input[1:]
		if len(s) > api.MaxText {
			return nil, api.IndexRange
		}
		return s, 0
	case api.OpIs:
		n := num(1)
		if reg(0).(tagged).n == n {
			return int64(1), 0
		}
		return int64(0), 0
	case api.OpOf:
		return reg(0).(tagged).v, 0
	}
	t := reg(0).(tagged)
	n := t.n
	for i := range in.L[1:] {
		if num(i+1) < t.n {
			n--
		}
	}
	return tagged{n, t.v}, 0
}

func arith(op int, a, b any) (any, int) {
	switch op {
	case 6:
		if s := a.(string) + b.(string); len(s) <= api.MaxText {
			return s, 0
		}
		return nil, api.IndexRange
	case 7:
		s, at := a.(string), b.(int64)
		if at < 0 || at >= int64(len(s)) {
			return nil, api.IndexRange
		}
		return int64(s[at]), 0
	}
	x, y := a.(int64), b.(int64)
	is := map[bool]int64{true: 1}
	switch op {
	case 0:
		return x + y, 0
	case 1:
		return x - y, 0
	case 2:
		return x * y, 0
	case 3:
		if y == 0 {
			return nil, api.DivZero
		}
		return x / y, 0
	case 4:
		return is[x < y], 0
	}
	return is[x == y], 0
}
