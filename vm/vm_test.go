package vm_test

import (
	"fmt"
	"math"
	"slices"
	"strings"
	"testing"

	"bushel/api"
	"bushel/code"
	"bushel/core"
	"bushel/elab"
	"bushel/fold"
	"bushel/gen"
	"bushel/infer"
	"bushel/model"
	"bushel/parse"
	"bushel/samples"
	"bushel/syn"
	"bushel/typ"
	"bushel/vm"
)

type tp = api.Type

func in(op, a int, l ...int) api.Instr { return api.Instr{Op: op, A: a, L: l} }

// of is an image of one function, with some constants, and one that adds what it takes along, and tells it with its argument.
func of(l ...api.Instr) api.Image {
	return api.Image{
		Ints:  []int64{0, 1, 2, -3, 5, math.MaxInt64},
		Texts: []string{"a", "b\n\"\\\x01", strings.Repeat("x", api.MaxText)},
		Funs: []api.Func{{Regs: 10, Code: l}, {Regs: 5, Caps: 2, Code: []api.Instr{
			in(api.OpArith, 4, 0, 2, 3), in(api.OpTuple, 4, 4, 0), in(api.OpBack, 0, 4),
		}}},
	}
}

var (
	integer = tp{Kind: api.TInt, Tail: -1}
	text    = tp{Kind: api.TText, Tail: -1}
	unit    = typ.Row(api.TRec, nil, nil, -1)
)

func ref(t tp) tp { return tp{Kind: api.TRef, L: []tp{t}, Tail: -1} }

func row(kind int, labels string, l ...tp) tp { return typ.Row(kind, strings.Fields(labels), l, -1) }

// ints is a record of integers.
func ints(labels string) tp {
	return row(api.TRec, labels, slices.Repeat([]tp{integer}, len(strings.Fields(labels)))...)
}

// said tells all of an outcome.
func said(out api.Out) string {
	told := out.Value
	switch out.Err {
	case 0:
	case api.ErrFault:
		told += fmt.Sprint("fault ", out.Fault)
	default:
		told += map[api.Code]string{api.ErrFuel: "fuel", api.ErrFull: "full", api.ErrCode: "code"}[out.Err]
	}
	if out.Err != api.ErrFault && out.Fault != 0 {
		told += "?"
	}
	return strings.TrimSpace(told + " " + strings.Join(out.Trace, ","))
}

func end(t *testing.T, m api.Image, of tp, half, fuel int, input ...string) string {
	t.Helper()
	out, err := vm.Run(m, of, input, half, fuel)
	if err != nil {
		t.Fatal(err)
	}
	return said(out)
}

// code of constants: registers 2 to 7 are 0, 1, 2, -3, 5 and a text.
func consts(l ...api.Instr) []api.Instr {
	return append([]api.Instr{in(api.OpInt, 2, 0), in(api.OpInt, 3, 1), in(api.OpInt, 4, 2), in(api.OpInt, 5, 3), in(api.OpInt, 6, 4), in(api.OpText, 7, 0)}, l...)
}

// P21.1: each operation, of what it asks for, and of something else.
func TestOperations(t *testing.T) {
	three := in(api.OpTuple, 8, 3, 4, 5)
	tag := in(api.OpTag, 8, 3, 6)
	box := in(api.OpRef, 8, 6)
	back := in(api.OpBack, 0, 9)
	for i, c := range []struct {
		t    tp
		want string
		l    []api.Instr
	}{
		{integer, "5", []api.Instr{in(api.OpMove, 9, 6)}},
		{integer, "0", nil},
		{text, `"a"`, []api.Instr{in(api.OpMove, 9, 7)}},
		{text, `"b\n\"\\"`, []api.Instr{in(api.OpText, 9, 1)}},
		{ints("a b c"), "{a = 1, b = 2, c = -3}", []api.Instr{in(api.OpTuple, 9, 3, 4, 5)}},
		{unit, "{}", []api.Instr{in(api.OpTuple, 9)}},
		{integer, "2", []api.Instr{three, in(api.OpSel, 9, 8, 3)}},
		{integer, "code", []api.Instr{three, in(api.OpSel, 9, 8, 6)}},
		{integer, "code", []api.Instr{three, in(api.OpSel, 9, 8, 5)}},
		{integer, "code", []api.Instr{three, in(api.OpSel, 9, 8, 7)}},
		{integer, "code", []api.Instr{in(api.OpSel, 9, 3, 3)}},
		{integer, "code", []api.Instr{in(api.OpSel, 9, 7, 3)}},
		{integer, "code", []api.Instr{tag, in(api.OpSel, 9, 8, 2)}},
		{ints("a b c d"), "{a = 1, b = 5, c = 2, d = -3}", []api.Instr{three, in(api.OpIns, 9, 6, 3, 8)}},
		{ints("a b c d e"), "{a = 1, b = 2, c = -3, d = 5, e = 2}", []api.Instr{three, in(api.OpArith, 9, 0, 3, 4), in(api.OpIns, 8, 6, 9, 8), in(api.OpInt, 9, 1), in(api.OpArith, 9, 0, 9, 9), in(api.OpArith, 9, 0, 9, 9), in(api.OpIns, 9, 4, 9, 8)}},
		{integer, "code", []api.Instr{three, in(api.OpIns, 9, 6, 6, 8)}},
		{integer, "code", []api.Instr{in(api.OpIns, 9, 6, 2, 7)}},
		{ints("a b"), "{a = 1, b = -3}", []api.Instr{three, in(api.OpDel, 9, 8, 3)}},
		{integer, "code", []api.Instr{three, in(api.OpInt, 9, 1), in(api.OpArith, 9, 0, 9, 4), in(api.OpDel, 9, 8, 9)}},
		{ints("a b c"), "{a = 1, b = 5, c = -3}", []api.Instr{three, in(api.OpPut, 9, 6, 3, 8)}},
		{ints("a b c"), "{a = 1, b = 2, c = -3}", []api.Instr{three, in(api.OpPut, 9, 6, 3, 8), in(api.OpMove, 9, 8)}},
		{integer, "code", []api.Instr{three, in(api.OpPut, 9, 6, 6, 8)}},
		// Tags.
		{row(api.TSum, "A B C", integer, text, unit), "A 5", []api.Instr{in(api.OpTag, 9, 6, 2)}},
		{row(api.TSum, "A B C", integer, text, unit), `B "a"`, []api.Instr{in(api.OpTag, 9, 7, 3)}},
		{integer, "code", []api.Instr{in(api.OpTag, 9, 6, 7)}},
		{integer, "1", []api.Instr{tag, in(api.OpIs, 9, 8, 6)}},
		{integer, "0", []api.Instr{tag, in(api.OpIs, 9, 8, 3)}},
		{integer, "code", []api.Instr{tag, in(api.OpIs, 9, 8, 7)}},
		{integer, "code", []api.Instr{in(api.OpIs, 9, 6, 6)}},
		{integer, "1", []api.Instr{tag, in(api.OpOf, 9, 8)}},
		{integer, "code", []api.Instr{three, in(api.OpOf, 9, 8)}},
		{row(api.TSum, "A B C", integer, integer, integer), "B 1", []api.Instr{tag, in(api.OpLower, 9, 8, 2, 3, 4, 5, 6)}},
		{row(api.TSum, "A B C D E F", slices.Repeat([]tp{integer}, 6)...), "F 1", []api.Instr{tag, in(api.OpLower, 9, 8)}},
		{integer, "code", []api.Instr{tag, in(api.OpLower, 9, 8, 7)}},
		{integer, "code", []api.Instr{in(api.OpLower, 9, 3)}},
		// Functions.
		{ints("x y"), "{x = 6, y = 2}", []api.Instr{in(api.OpClos, 8, 1, 3, 6), in(api.OpApp, 9, 8, 4)}},
		{integer, "code", []api.Instr{in(api.OpApp, 9, 3, 4)}},
		{integer, "code", []api.Instr{three, in(api.OpApp, 9, 8, 4)}},
		{typ.Fn(integer, text), "fn", []api.Instr{in(api.OpClos, 9, 1, 3, 6)}},
		{typ.Var(0), "fn", []api.Instr{in(api.OpClos, 9, 1, 3, 6)}},
		{typ.Var(3), "fn", []api.Instr{in(api.OpMove, 9, 6)}},
		// References.
		{integer, "5", []api.Instr{box, in(api.OpGet, 9, 8)}},
		{integer, "code", []api.Instr{three, in(api.OpGet, 9, 8)}},
		{ref(integer), "ref 2", []api.Instr{box, in(api.OpMove, 9, 8), in(api.OpSet, 8, 8, 4)}},
		{unit, "{}", []api.Instr{box, in(api.OpSet, 9, 8, 8)}},
		{integer, "code", []api.Instr{in(api.OpSet, 9, 6, 6)}},
		{ref(ref(integer)), "ref (ref 5)", []api.Instr{box, in(api.OpRef, 9, 8)}},
		{ref(row(api.TSum, "A", integer)), "ref (A 1)", []api.Instr{in(api.OpTag, 8, 3, 2), in(api.OpRef, 9, 8)}},
		{row(api.TSum, "A", row(api.TSum, "B", integer)), "A (B 1)", []api.Instr{in(api.OpTag, 8, 3, 2), in(api.OpTag, 9, 8, 2)}},
		{row(api.TSum, "A", ref(integer)), "A ref 5", []api.Instr{box, in(api.OpTag, 9, 8, 2)}},
		// Texts.
		{unit, "{} a", []api.Instr{in(api.OpPrint, 9, 7)}},
		{unit, "code", []api.Instr{in(api.OpPrint, 9, 6)}},
		{text, `"-3"`, []api.Instr{in(api.OpShow, 9, 5)}},
		{text, "code", []api.Instr{in(api.OpShow, 9, 7)}},
		{text, `"aa"`, []api.Instr{in(api.OpArith, 9, 6, 7, 7)}},
		{text, "fault 2", []api.Instr{in(api.OpText, 8, 2), in(api.OpArith, 9, 6, 7, 8)}},
		{text, "code", []api.Instr{in(api.OpArith, 9, 6, 7, 6)}},
		{text, "code", []api.Instr{in(api.OpArith, 9, 6, 6, 7)}},
		{integer, "97", []api.Instr{in(api.OpArith, 9, 7, 7, 2)}},
		{integer, "fault 2", []api.Instr{in(api.OpArith, 9, 7, 7, 3)}},
		{integer, "fault 2", []api.Instr{in(api.OpArith, 9, 7, 7, 5)}},
		{integer, "code", []api.Instr{in(api.OpArith, 9, 7, 7, 7)}},
		{integer, "code", []api.Instr{in(api.OpArith, 9, 7, 2, 2)}},
		// Integers.
		{integer, "-9223372036854775808", []api.Instr{in(api.OpInt, 9, 5), in(api.OpArith, 9, 0, 9, 3)}},
		{integer, "8", []api.Instr{in(api.OpArith, 9, 1, 6, 5)}},
		{integer, "-15", []api.Instr{in(api.OpArith, 9, 2, 6, 5)}},
		{integer, "-1", []api.Instr{in(api.OpArith, 9, 3, 5, 4)}},
		{integer, "fault 1", []api.Instr{in(api.OpArith, 9, 3, 5, 2)}},
		{integer, "1", []api.Instr{in(api.OpArith, 9, 4, 5, 2)}},
		{integer, "0", []api.Instr{in(api.OpArith, 9, 4, 2, 2)}},
		{integer, "1", []api.Instr{in(api.OpArith, 9, 5, 2, 2)}},
		{integer, "0", []api.Instr{in(api.OpArith, 9, 5, 2, 3)}},
		{integer, "code", []api.Instr{in(api.OpArith, 9, 0, 2, 7)}},
		{integer, "code", []api.Instr{in(api.OpArith, 9, 3, 7, 2)}},
		// On elsewhere.
		{integer, "5", []api.Instr{in(api.OpMove, 9, 6), in(api.OpZero, 0, 2, 9), in(api.OpMove, 9, 3)}},
		{integer, "1", []api.Instr{in(api.OpMove, 9, 6), in(api.OpZero, 0, 3, 9), in(api.OpMove, 9, 3)}},
		{integer, "code", []api.Instr{in(api.OpMove, 9, 6), in(api.OpZero, 0, 7, 9), in(api.OpMove, 9, 3)}},
		{integer, "5", []api.Instr{in(api.OpMove, 9, 6), in(api.OpGo, 0, 9), in(api.OpMove, 9, 3)}},
		// Values that aren't of the type.
		{text, "code", []api.Instr{in(api.OpMove, 9, 6)}},
		{integer, "code", []api.Instr{in(api.OpMove, 9, 7)}},
		{ints("a b"), "code", []api.Instr{in(api.OpTuple, 9, 3, 4, 5)}},
		{ints("a b c"), "code", []api.Instr{in(api.OpTuple, 9, 3, 4, 7)}},
		{ints("a"), "code", []api.Instr{in(api.OpMove, 9, 6)}},
		{ref(integer), "code", []api.Instr{in(api.OpTuple, 9, 3)}},
		{row(api.TSum, "A", integer), "code", []api.Instr{in(api.OpTag, 9, 3, 3)}},
		{row(api.TSum, "A", integer), "code", []api.Instr{in(api.OpTag, 9, 3, 5)}},
		{row(api.TSum, "A", integer), "code", []api.Instr{in(api.OpTag, 9, 7, 2)}},
		{row(api.TSum, "A", integer), "code", []api.Instr{in(api.OpTuple, 9, 2, 3)}},
	} {
		m := of(append(consts(c.l...), back)...)
		if got := end(t, m, c.t, 1000, 100); got != c.want {
			t.Errorf("%d: %v %s, not %s", i, c.l, got, c.want)
		}
	}
}

// P21.1: registers are 0 at first; a function has itself, and what it takes along.
func TestFrames(t *testing.T) {
	if got := end(t, of(in(api.OpTuple, 9, 0, 1, 8), in(api.OpBack, 0, 9)), ints("a b c"), 10, 10); got != "{a = 0, b = 0, c = 0}" {
		t.Error(got)
	}
	m := of(in(api.OpInt, 2, 1), in(api.OpInt, 3, 2), in(api.OpClos, 4, 1, 2, 3), in(api.OpInt, 5, 4), in(api.OpApp, 6, 4, 5), in(api.OpTuple, 7, 6, 2, 4, 5), in(api.OpBack, 0, 7))
	m.Funs[1] = api.Func{Regs: 6, Caps: 2, Code: []api.Instr{in(api.OpTuple, 4, 0, 1, 2, 3, 4, 5), in(api.OpInt, 2, 4), in(api.OpInt, 0, 4), in(api.OpBack, 0, 4)}}
	inner := row(api.TRec, "a b c d e f", integer, typ.Var(0), integer, integer, integer, integer)
	want := "{p = {a = 5, b = fn, c = 1, d = 2, e = 0, f = 0}, q = 1, r = fn, s = 5}"
	if got := end(t, m, row(api.TRec, "p q r s", inner, integer, typ.Fn(integer, inner), integer), 100, 100); got != want {
		t.Error(got)
	}
	if got := end(t, m, row(api.TRec, "p q r s", inner, integer, typ.Fn(integer, inner), integer), 18, 100); got != want {
		t.Error(got)
	}
}

// P21.1
func TestReadAndFuel(t *testing.T) {
	read := of(in(api.OpRead, 2), in(api.OpPrint, 3, 2), in(api.OpRead, 2), in(api.OpBack, 0, 2))
	long := strings.Repeat("x", api.MaxText)
	for _, c := range []struct {
		input []string
		fuel  int
		want  string
	}{
		{[]string{"p", "q", "r"}, 4, `"q" p`},
		{[]string{"p", "q"}, 3, "fuel p"},
		{[]string{"p", "q"}, 1, "fuel"},
		{[]string{"p", "q"}, 0, "fuel"},
		{[]string{"p", "q"}, -1, "fuel"},
		{[]string{"p", "q"}, math.MinInt, "fuel"},
		{[]string{"p"}, 9, "fault 3 p"},
		{nil, 9, "fault 3"},
		{[]string{"p", long}, 9, `"` + long[1:] + " p"},
		{[]string{"p", long + "x"}, 9, "fault 2 p"},
	} {
		if got := end(t, read, text, 600, c.fuel, c.input...); got != c.want {
			t.Errorf("%.20q %d: %.40s", c.input, c.fuel, got)
		}
	}
	loop := of(in(api.OpGo, 0, 0))
	if got := end(t, loop, integer, 1, 1000000); got != "fuel" {
		t.Error(got)
	}
	deep := of(in(api.OpClos, 2, 1, 2, 2), in(api.OpApp, 3, 2, 2), in(api.OpBack, 0, 3))
	deep.Funs[1].Code = []api.Instr{in(api.OpApp, 3, 1, 0), in(api.OpBack, 0, 3)}
	deep.Funs[1].Regs = api.MaxRegs
	if got := end(t, deep, integer, 10, 1000000); got != "fuel" {
		t.Error(got)
	}
}

// P21.1: what is told ahead of a run.
func TestRefuses(t *testing.T) {
	good := of(in(api.OpInt, 2, 4), in(api.OpBack, 0, 2))
	bad := of(in(api.OpInt, 2, 4))
	for i, c := range []struct {
		m    api.Image
		t    tp
		half int
		err  error
	}{
		{good, integer, 1, nil},
		{good, integer, api.MaxWords, nil},
		{good, integer, 0, api.ErrArg},
		{good, integer, -1, api.ErrArg},
		{good, integer, api.MaxWords + 1, api.ErrArg},
		{good, tp{}, 10, api.ErrArg},
		{good, typ.Var(-1), 10, api.ErrArg},
		{bad, integer, 10, api.ErrCode},
		{bad, tp{}, 0, api.ErrCode},
		{api.Image{}, integer, 10, api.ErrCode},
		{api.Image{Funs: []api.Func{{Regs: math.MinInt, Code: []api.Instr{in(api.OpGo, 0, 0)}}}}, integer, 10, api.ErrCode},
	} {
		out, err := vm.Run(c.m, c.t, nil, c.half, 100)
		if err != c.err || err != nil && (said(out) != "" || out.Err != 0) || err == nil && said(out) != "5" {
			t.Error(i, out, err)
		}
	}
}

// P21.1: a heap without room; an object that is too great for all.
func TestFull(t *testing.T) {
	m := of(in(api.OpTuple, 2), in(api.OpPrint, 3, 0), in(api.OpBack, 0, 2))
	m.Funs[0].Code[1] = in(api.OpTuple, 3, 2, 2, 2)
	for half, want := range map[int]string{1: "full", 4: "full", 5: "{}", 6: "{}"} {
		if got := end(t, m, unit, half, 100); got != want {
			t.Error(half, got)
		}
	}
	// What no register has is collected.
	m = of(in(api.OpTuple, 2, 0, 0), in(api.OpTuple, 2, 0), in(api.OpTuple, 2, 0), in(api.OpBack, 0, 2))
	for half, want := range map[int]string{4: "full", 5: "{a = 0}"} {
		if got := end(t, m, ints("a"), half, 100); got != want {
			t.Error(half, got)
		}
	}
	big := of(in(api.OpTuple, 2, slices.Repeat([]int{0}, api.MaxObject)...), in(api.OpInt, 3, 0), in(api.OpIns, 2, 3, 3, 2), in(api.OpBack, 0, 3))
	if got := end(t, big, integer, 100000, 100); got != "full" {
		t.Error(got)
	}
	if got := end(t, of(in(api.OpTuple, 2, slices.Repeat([]int{0}, api.MaxObject+1)...), in(api.OpBack, 0, 2)), integer, 100000, 100); got != "full" {
		t.Error(got)
	}
}

// compile compiles a program.
func compile(t *testing.T, s string) (api.Image, tp) {
	t.Helper()
	e, err := parse.Program([]byte(s))
	if err != nil {
		t.Fatal(err)
	}
	d, err := infer.Infer(e)
	if err != nil {
		t.Fatal(err)
	}
	c, err := elab.Core(d)
	if err != nil {
		t.Fatal(err)
	}
	m, err := gen.Image(fold.Fold(c))
	if err != nil {
		t.Fatal(err)
	}
	return m, d.T
}

// P21.1: of a value's text the first MaxText bytes.
func TestLongValues(t *testing.T) {
	m, of := compile(t, `let d = fn s -> s ^ s in let s = d (d (d "0123456789")) in let t = d (d (d (d s))) in {a = t, b = {c = t, d = A (ref t)}}`)
	got := end(t, m, of, 10000, 10000)
	want := `{a = "` + strings.Repeat("0123456789", 128) + `", b = {c = "` + strings.Repeat("0123456789", 128)
	if len(got) != api.MaxText || got != want[:api.MaxText] {
		t.Error(len(got), got[:20])
	}
}

// P21.1, P21.3: collected often, a run is the same as with much room.
func TestCollected(t *testing.T) {
	m, of := compile(t, `
		let rec make n = fn r -> if n then make (n - 1) {a = r.a + 1, b = {c = "x" ^ show n, d = A r.a}} else r in
		let rec sum n = fn r -> if n then (match r.b.d with | A x -> x end) + sum (n - 1) (make 3 r) else r.a in
		let k = ref {a = 0, b = {c = "", d = A 0}} in
		let rec go n = if n then let q = k := make 2 (!k) in let p = print (!k).b.c in 1 + go (n - 1) else 0 in
		{go = go 20, r = k, sum = sum 30 (!k)}`)
	want := end(t, m, of, 1000000, 100000)
	if !strings.HasPrefix(want, "{go = 20, r = ref {a = 40, b = {c = \"x1\", d = A 39}}, sum = ") || strings.Count(want, ",") < 20 {
		t.Fatal(want)
	}
	full, same := 0, 0
	for half := 1; half < 4000; half += 7 {
		got := end(t, m, of, half, 100000)
		switch {
		case strings.HasPrefix(got, "full"):
			if full++; same > 0 {
				t.Fatal("more room is not enough", half)
			}
		case got == want:
			same++
		default:
			t.Fatal(half, got)
		}
	}
	if full == 0 || same < 100 {
		t.Error(full, same)
	}
}

// random is a core expression without free names, and its image.
func random(t *testing.T, i int) (api.Core, api.Image) {
	t.Helper()
	e := samples.New(i).Core(2+i%7, false)
	for _, name := range core.Free(e) {
		e = api.Core{Kind: api.CLet, S: name, L: []api.Core{samples.Pick(samples.New(i), api.Core{Kind: api.CTuple}, api.Core{Kind: api.CInt, N: 1}, api.Core{Kind: api.CRead}), e}}
	}
	m, err := gen.Image(e)
	if err != nil {
		t.Fatal(err)
	}
	return e, m
}

// P20.1, P21.1: what core expressions come to, but for values, stuck or not.
func TestAgainstCore(t *testing.T) {
	input := []string{"a", "", "b"}
	ended := 0
	for i := range 15000 {
		e, m := random(t, i)
		v, out := core.Run(e, input, 400)
		if out.Err == api.ErrFuel {
			continue
		}
		of, value := typ.Var(0), "fn"
		switch v.Kind {
		case core.VInt:
			of, value = integer, fmt.Sprint(v.N)
		case core.VTuple:
			if len(v.L) == 0 {
				of, value = unit, "{}"
			}
		}
		if out.Err == 0 {
			out.Value = value
		}
		if out.Err == api.ErrStuck {
			out.Err = api.ErrCode
		}
		got, err := vm.Run(m, of, input, 20000, 20000)
		if err != nil || said(got) != said(out) || got.Err != out.Err {
			t.Fatal(i, said(got), said(out), err)
		}
		ended++
	}
	if ended < 10000 {
		t.Error(ended)
	}
}

// P21.3, T1, T4: programs, by several sizes and fuels.
func TestPrograms(t *testing.T) {
	input := []string{"a", "", "b"}
	ended, full := 0, 0
	for i := range 2500 {
		e, _ := samples.New(i).Program(2 + i%6)
		if !syn.May(e) {
			continue
		}
		d, err := infer.Infer(e)
		if err != nil {
			t.Fatal(err)
		}
		c, _ := elab.Core(d)
		m, err := gen.Image(c)
		if err != nil {
			t.Fatal(err)
		}
		want := model.Run(e, input, 3000)
		was := api.Out{Err: api.ErrFull}
		for _, half := range []int{1, 3, 10, 20, 40, 80, 300, 3000, 30000} {
			got, err := vm.Run(m, d.T, input, half, 30000)
			if err != nil || got.Err == api.ErrCode {
				t.Fatal(i, got, err)
			}
			if was.Err != api.ErrFull && (said(was) != said(got) || was.Err != got.Err) {
				t.Fatal(i, half, "more room", said(was), said(got))
			}
			if !slices.Equal(was.Trace, got.Trace[:min(len(was.Trace), len(got.Trace))]) {
				t.Fatal(i, half, was.Trace, got.Trace)
			}
			if got.Err == api.ErrFull {
				full++
			} else if want.Err != api.ErrFuel && got.Err != api.ErrFuel {
				ended++
				if said(got) != said(want) || got.Err != want.Err {
					t.Fatal(i, half, said(got), said(want))
				}
			}
			was = got
		}
		var trace []string
		for _, fuel := range []int{0, 5, 20, 100, 1000} {
			got, _ := vm.Run(m, d.T, input, 30000, fuel)
			if !slices.Equal(trace, got.Trace[:min(len(trace), len(got.Trace))]) {
				t.Fatal(i, fuel, trace, got.Trace)
			}
			trace = got.Trace
		}
	}
	if ended < 3000 || full < 1000 {
		t.Error(ended, full)
	}
}

// P1: images by chance, as far as they are sound.
func TestAnyImages(t *testing.T) {
	r := samples.New(3)
	codes := 0
	for range 20000 {
		var l []api.Instr
		for range 1 + r.Below(20) {
			op := 1 + r.Below(24)
			i := in(op, r.Below(10))
			n := []int{0, 1, 1, 1, 1 + r.Below(3), r.Below(4), 2, 3, 2, 3, 2, 2, 3, 1, 1, 2, 1, 1, 0, 2, 1, 1 + r.Below(3), 2, 1, 1}[op]
			for range n {
				i.L = append(i.L, r.Below(8))
			}
			if op >= api.OpZero {
				i.A = 0
			}
			if op == api.OpInt || op == api.OpText {
				i.L[0] = r.Below(3)
			}
			if op == api.OpClos {
				i.L = [][]int{{0}, {1, r.Below(9), r.Below(9)}}[r.Below(2)]
			}
			l = append(l, i)
		}
		m := of(append(l, in(api.OpBack, 0, r.Below(10)))...)
		if code.Check(m) != nil {
			continue
		}
		out, err := vm.Run(m, samples.Pick(r, integer, text, unit, typ.Var(0), ints("a b"), ref(integer)), []string{"a"}, 1+r.Below(40), r.Below(200))
		if err != nil {
			t.Fatal(err)
		}
		if out.Err == api.ErrCode {
			codes++
		}
	}
	if codes < 2000 {
		t.Error(codes)
	}
}

// P21.2, R2
func TestNothingIsChanged(t *testing.T) {
	m := of(in(api.OpRead, 2), in(api.OpPrint, 3, 2), in(api.OpTuple, 4, 2, 2), in(api.OpBack, 0, 4))
	was := of(in(api.OpRead, 2), in(api.OpPrint, 3, 2), in(api.OpTuple, 4, 2, 2), in(api.OpBack, 0, 4))
	of := row(api.TRec, "a b", text, text)
	input := []string{"x", "y"}
	out, err := vm.Run(m, of, input, 8, 100)
	if err != nil || said(out) != `{a = "x", b = "x"} x` {
		t.Fatal(out, err)
	}
	out.Trace[0] = "changed"
	if !code.Same(m, was) || !slices.Equal(input, []string{"x", "y"}) || !typ.Same(of, row(api.TRec, "a b", text, text)) {
		t.Error(m, input, of)
	}
}
