package code_test

import (
	"bytes"
	"encoding/binary"
	"math"
	"math/big"
	"slices"
	"strings"
	"testing"

	"bushel/api"
	"bushel/code"
	"bushel/samples"
)

func in(op, a int, l ...int) api.Instr { return api.Instr{Op: op, A: a, L: l} }

var back = in(api.OpBack, 0, 0)

// of is an image of one function, of 4 registers, and others that take 0 and 2 along.
func of(l ...api.Instr) api.Image {
	return api.Image{
		Ints:  []int64{7, -1},
		Texts: []string{"a", "\xff\n"},
		Funs:  []api.Func{{Regs: 4, Code: l}, {Regs: 2, Code: []api.Instr{back}}, {Regs: 4, Caps: 2, Code: []api.Instr{back}}},
	}
}

// P19.1
func TestExample(t *testing.T) {
	m := api.Image{Funs: []api.Func{{Regs: 2, Code: []api.Instr{in(api.OpRead, 0), back}}}}
	if err := code.Check(m); err != nil {
		t.Error(err)
	}
	if b, err := code.Put(m); err != nil || !bytes.Equal(b, []byte{0, 0, 2, 4, 0, 4, 36, 0, 0, 48, 0, 2, 0}) {
		t.Error(b, err)
	}
}

// good are instructions that may be.
var good = []api.Instr{
	in(api.OpInt, 3, 0), in(api.OpInt, 0, 1), in(api.OpText, 3, 1), in(api.OpMove, 3, 3),
	in(api.OpClos, 3, 0), in(api.OpClos, 3, 1), in(api.OpClos, 3, 2, 0, 3), in(api.OpTuple, 3), in(api.OpTuple, 3, 0, 1, 2, 3, 3, 3),
	in(api.OpSel, 3, 0, 3), in(api.OpIns, 3, 0, 1, 3), in(api.OpDel, 3, 0, 3), in(api.OpPut, 3, 0, 1, 3),
	in(api.OpTag, 3, 0, 3), in(api.OpApp, 3, 0, 3), in(api.OpArith, 3, 0, 3, 3), in(api.OpArith, 3, 7, 0, 0),
	in(api.OpRef, 3, 3), in(api.OpGet, 3, 3), in(api.OpSet, 3, 3, 3), in(api.OpPrint, 3, 3), in(api.OpShow, 3, 3), in(api.OpRead, 3),
	in(api.OpIs, 3, 3, 3), in(api.OpOf, 3, 3), in(api.OpLower, 3, 3), in(api.OpLower, 3, 3, 0, 1, 2),
	in(api.OpZero, 0, 3, 0), in(api.OpZero, 0, 0, 1), in(api.OpGo, 0, 0), in(api.OpGo, 0, 1), in(api.OpBack, 0, 3),
}

// P19.1
func TestInstructions(t *testing.T) {
	check := func(i api.Instr, want error) {
		t.Helper()
		if err := code.Check(of(i, back)); err != want {
			t.Error(i, err)
		}
		if b, err := code.Put(of(i, back)); err != want || err != nil && b != nil {
			t.Error(i, b, err)
		}
	}
	for _, i := range good {
		check(i, nil)
		for _, a := range []int{-1, 4, math.MaxInt, math.MinInt} {
			check(in(i.Op, a, i.L...), api.ErrCode)
		}
		if i.Op == api.OpZero || i.Op >= api.OpGo {
			check(in(i.Op, 1, i.L...), api.ErrCode)
		}
		for at := range i.L {
			for _, n := range []int{-1, 8, math.MaxInt, math.MinInt} {
				l := slices.Clone(i.L)
				l[at] = n
				check(in(i.Op, i.A, l...), api.ErrCode)
			}
		}
		if i.Op != api.OpTuple && i.Op != api.OpLower {
			check(in(i.Op, i.A, append(slices.Clone(i.L), 0)...), api.ErrCode)
		}
		if i.Op != api.OpTuple && (i.Op != api.OpLower || len(i.L) == 1) && len(i.L) > 0 {
			check(in(i.Op, i.A, i.L[1:]...), api.ErrCode)
		}
	}
	for _, op := range []int{0, -1, 25, math.MaxInt} {
		check(in(op, 0), api.ErrCode)
		check(in(op, 0, 0), api.ErrCode)
	}
	// Each sort of number has a bound of its own.
	for _, i := range []api.Instr{in(api.OpInt, 0, 2), in(api.OpText, 0, 2), in(api.OpClos, 0, 3), in(api.OpArith, 0, 8, 0, 0), in(api.OpGo, 0, 2), in(api.OpZero, 0, 0, 2),
		in(api.OpClos, 0, 0, 0), in(api.OpClos, 0, 2), in(api.OpClos, 0, 2, 0), in(api.OpClos, 0, 2, 0, 4), in(api.OpZero, 0, 4, 0), in(api.OpMove, 0, 4), in(api.OpTuple, 0, 0, 4)} {
		check(i, api.ErrCode)
	}
}

// P19.1
func TestCheck(t *testing.T) {
	long := strings.Repeat("x", api.MaxText)
	codeOf := func(n int) []api.Instr { return append(slices.Repeat([]api.Instr{in(api.OpRead, 0)}, n-1), back) }
	one := func(f api.Func) api.Image { return api.Image{Funs: []api.Func{{Regs: 2, Code: []api.Instr{back}}, f}} }
	for i, c := range []struct {
		m     api.Image
		sound bool
	}{
		{of(back), true},
		{api.Image{}, false},
		{api.Image{Funs: []api.Func{{Regs: 3, Caps: 1, Code: []api.Instr{back}}}}, false},
		{api.Image{Funs: slices.Repeat([]api.Func{{Regs: 2, Code: []api.Instr{back}}}, api.MaxFuns)}, true},
		{api.Image{Funs: slices.Repeat([]api.Func{{Regs: 2, Code: []api.Instr{back}}}, api.MaxFuns+1)}, false},
		{api.Image{Texts: []string{long}, Funs: of(back).Funs}, true},
		{api.Image{Texts: []string{"", long + "x"}, Funs: of(back).Funs}, false},
		{of(codeOf(api.MaxCode - 2)...), true},
		{of(codeOf(api.MaxCode - 1)...), false},
		{of(), false},
		{of(in(api.OpRead, 0)), false},
		{of(back, in(api.OpZero, 0, 0, 0)), false},
		{of(in(api.OpGo, 0, 0)), true},
		{one(api.Func{Regs: 5, Caps: 3, Code: []api.Instr{in(api.OpBack, 0, 4)}}), true},
		{one(api.Func{Regs: 4, Caps: 3, Code: []api.Instr{back}}), false},
		{one(api.Func{Regs: 1, Code: []api.Instr{back}}), false},
		{one(api.Func{Regs: 2, Caps: -1, Code: []api.Instr{back}}), false},
		{one(api.Func{Regs: api.MaxRegs, Caps: api.MaxRegs - 2, Code: []api.Instr{back}}), true},
		{one(api.Func{Regs: api.MaxRegs + 1, Code: []api.Instr{back}}), false},
		{one(api.Func{Regs: math.MinInt, Caps: math.MinInt, Code: []api.Instr{back}}), false},
		{one(api.Func{Regs: math.MinInt, Code: []api.Instr{back}}), false},
		{one(api.Func{Regs: math.MaxInt, Caps: math.MaxInt, Code: []api.Instr{back}}), false},
		{one(api.Func{Regs: 2}), false},
		{one(api.Func{Regs: 2, Code: []api.Instr{in(api.OpGo, 0, 1)}}), false},
	} {
		err := code.Check(c.m)
		if c.sound && err != nil || !c.sound && err != api.ErrCode {
			t.Error(i, err)
		}
		b, err := code.Put(c.m)
		if c.sound != (err == nil) || !c.sound && len(b) > 0 {
			t.Error(i, err)
		}
		if !c.sound {
			continue
		}
		if got, err := code.Get(b); err != nil || !code.Same(got, c.m) {
			t.Error(i, err)
		}
	}
}

// around are numbers of which some wrap round, where others are added or taken away.
var around = []int{math.MinInt, math.MinInt + 1, math.MinInt + 2, math.MinInt + 3, -api.MaxRegs, -3, -2, -1, 0, 1, 2, 3, 4, 5,
	api.MaxRegs - 3, api.MaxRegs - 2, api.MaxRegs - 1, api.MaxRegs, api.MaxRegs + 1, api.MaxRegs + 2, math.MaxInt - 2, math.MaxInt - 1, math.MaxInt}

// mayHave tells, with numbers that never wrap round, whether a function may have so many registers, and captures.
func mayHave(regs, caps int) bool {
	least := new(big.Int).Add(big.NewInt(int64(caps)), big.NewInt(2))
	return caps >= 0 && regs <= api.MaxRegs && least.Cmp(big.NewInt(int64(regs))) <= 0
}

// putAnyway are the bytes of an image of functions alone, sound or not.
func putAnyway(funs ...api.Func) []byte {
	var b []byte
	put := func(n int) {
		// A number below 0 is -2n - 1, which is twice its complement, and 1.
		u := uint64(n) << 1
		if n < 0 {
			u = uint64(^n)<<1 + 1
		}
		b = binary.AppendUvarint(b, u)
	}
	b = append(b, 0, 0)
	put(len(funs))
	for _, f := range funs {
		put(f.Regs)
		put(f.Caps)
		put(len(f.Code))
		for _, i := range f.Code {
			put(i.Op)
			put(i.A)
			put(len(i.L))
			for _, n := range i.L {
				put(n)
			}
		}
	}
	return b
}

// P19.1, P19.2: registers and captures by themselves, for no instruction names a register.
func TestRegisters(t *testing.T) {
	only := func(regs, caps int) api.Func {
		return api.Func{Regs: regs, Caps: caps, Code: []api.Instr{in(api.OpGo, 0, 0)}}
	}
	check := func(sound bool, funs ...api.Func) {
		t.Helper()
		var want error = api.ErrCode
		if sound {
			want = nil
		}
		m, bytesOf := api.Image{Funs: funs}, putAnyway(funs...)
		where := []int{len(funs), funs[len(funs)-1].Regs, funs[len(funs)-1].Caps}
		if err := code.Check(m); err != want {
			t.Error("Check", where, err)
		}
		if b, err := code.Put(m); err != want || sound != bytes.Equal(b, bytesOf) || !sound && len(b) > 0 {
			t.Error("Put", where, b, err)
		}
		if got, err := code.Get(bytesOf); err != want || sound != code.Same(got, m) || !sound && !code.Same(got, api.Image{}) {
			t.Error("Get", where, got, err)
		}
	}
	sound := 0
	for _, regs := range around {
		for _, caps := range around {
			may := mayHave(regs, caps)
			if may {
				sound++
			}
			check(may && caps == 0, only(regs, caps))
			check(may, only(2, 0), only(regs, caps))
			check(may && caps == 0, only(regs, caps), only(2, 0))
		}
	}
	if sound < 20 {
		t.Error(sound)
	}
}

// P19.1
func TestSame(t *testing.T) {
	base := func() api.Image { return of(in(api.OpClos, 3, 2, 0, 3), back) }
	if !code.Same(base(), base()) || !code.Same(api.Image{}, api.Image{Ints: []int64{}, Texts: []string{}, Funs: []api.Func{}}) {
		t.Error("not the same")
	}
	for i, change := range []func(m *api.Image){
		func(m *api.Image) { m.Ints[0]++ }, func(m *api.Image) { m.Ints = nil }, func(m *api.Image) { m.Texts[0] = "" }, func(m *api.Image) { m.Texts = m.Texts[1:] },
		func(m *api.Image) { m.Funs = m.Funs[:2] }, func(m *api.Image) { m.Funs[1].Regs++ }, func(m *api.Image) { m.Funs[1].Caps++ },
		func(m *api.Image) { m.Funs[0].Code[0].Op++ }, func(m *api.Image) { m.Funs[0].Code[0].A++ }, func(m *api.Image) { m.Funs[0].Code[0].L[1]++ },
		func(m *api.Image) { m.Funs[0].Code = m.Funs[0].Code[1:] }, func(m *api.Image) { m.Funs[0].Code[0].L = nil },
	} {
		m := base()
		change(&m)
		if code.Same(m, base()) || code.Same(base(), m) {
			t.Error(i)
		}
	}
}

// P19.2: numbers are varints, of as few bytes as can be.
func TestNumbers(t *testing.T) {
	behind := []byte{0, 2, 4, 0, 2, 48, 0, 2, 0}
	for n, want := range map[int64][]byte{
		0: {0}, 1: {2}, -1: {1}, 63: {126}, -64: {127}, 64: {128, 1}, -65: {129, 1}, 8191: {254, 127}, 8192: {128, 128, 1},
		math.MaxInt64: {254, 255, 255, 255, 255, 255, 255, 255, 255, 1}, math.MinInt64: {255, 255, 255, 255, 255, 255, 255, 255, 255, 1},
	} {
		m := api.Image{Ints: []int64{n}, Funs: []api.Func{{Regs: 2, Code: []api.Instr{back}}}}
		all := slices.Concat([]byte{2}, want, behind)
		if b, err := code.Put(m); err != nil || !bytes.Equal(b, all) {
			t.Error(n, b, err)
		}
		if got, err := code.Get(all); err != nil || !code.Same(got, m) {
			t.Error(n, got, err)
		}
	}
	for i, bad := range [][]byte{{128, 0}, {130, 0}, {128, 128, 0}, {128}, {255, 255, 255, 255, 255, 255, 255, 255, 255, 2}, {255, 255, 255, 255, 255, 255, 255, 255, 255, 129, 0},
		{255, 255, 255, 255, 255, 255, 255, 255, 255, 0}} {
		if got, err := code.Get(slices.Concat([]byte{2}, bad, behind)); err != api.ErrCode || !code.Same(got, api.Image{}) {
			t.Error(i, got, err)
		}
	}
}

// random is a sound image.
func random(r *samples.Source) api.Image {
	m := of(back)
	m.Ints = nil
	for range 2 + r.Below(5) {
		m.Ints = append(m.Ints, int64(r.Below(1000000))-int64(r.Below(1000000))*int64(r.Below(1000000)))
	}
	m.Texts = append(m.Texts, strings.Repeat("\x80", r.Below(300)))
	for i := range m.Funs {
		m.Funs[i].Code = nil
		m.Funs[i].Regs = 4 + r.Below(1000)
		for range r.Below(20) {
			m.Funs[i].Code = append(m.Funs[i].Code, samples.Pick(r, good...))
		}
		m.Funs[i].Code = append(m.Funs[i].Code, back, back)
	}
	return m
}

// P19.2, P19.4
func TestPutAndGet(t *testing.T) {
	r := samples.New(1)
	sound := 0
	for range 3000 {
		m := random(r)
		b, err := code.Put(m)
		if err != nil {
			t.Fatal(err)
		}
		got, err := code.Get(b)
		if err != nil || !code.Same(got, m) {
			t.Fatal(err)
		}
		if _, err := code.Get(append(slices.Clone(b), 0)); err != api.ErrCode {
			t.Fatal("a byte more")
		}
		if _, err := code.Get(b[:r.Below(len(b))]); err != api.ErrCode {
			t.Fatal("bytes less")
		}
		// What is changed by chance is refused, or put as those bytes.
		b[r.Below(len(b))] = byte(r.Below(256))
		got, err = code.Get(b)
		if err != nil {
			if err != api.ErrCode || !code.Same(got, api.Image{}) {
				t.Fatal(err)
			}
			continue
		}
		sound++
		if again, err := code.Put(got); err != nil || !bytes.Equal(again, b) {
			t.Fatal("other bytes", err)
		}
	}
	if sound < 100 {
		t.Error(sound)
	}
}

// P1: any bytes, and counts that are too great.
func TestAnyBytes(t *testing.T) {
	r := samples.New(2)
	for range 20000 {
		b := make([]byte, r.Below(40))
		for i := range b {
			b[i] = byte(samples.Pick(r, r.Below(8), r.Below(60), r.Below(256)))
		}
		was := bytes.Clone(b)
		got, err := code.Get(b)
		if !bytes.Equal(b, was) || (err == nil) != (code.Check(got) == nil) {
			t.Fatal(b, err)
		}
	}
	for _, b := range [][]byte{nil, {254, 255, 255, 255, 255, 255, 255, 255, 255, 1}, {255, 255, 255, 255, 255, 255, 255, 255, 255, 1}, {0, 2, 200, 1}, {0, 2, 1}, {1}, {0, 0, 254, 255, 255, 15}} {
		if _, err := code.Get(b); err != api.ErrCode {
			t.Error(b, err)
		}
	}
}

// P19.3, R2
func TestNothingIsShared(t *testing.T) {
	m := of(in(api.OpTuple, 3, 0, 1), back)
	b, _ := code.Put(m)
	got, _ := code.Get(b)
	for i := range b {
		b[i] = 0
	}
	if !code.Same(got, m) {
		t.Error(got)
	}
	b, _ = code.Put(m)
	got.Funs[0].Code[0].L[0], got.Ints[0] = 3, 9
	if again, _ := code.Get(b); !code.Same(again, m) || m.Ints[0] != 7 {
		t.Error(again)
	}
}
