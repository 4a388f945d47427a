package driver_test

import (
	"errors"
	"fmt"
	"slices"
	"strings"
	"testing"

	"bushel/api"
	"bushel/code"
	"bushel/driver"
	"bushel/elab"
	"bushel/fold"
	"bushel/gen"
	"bushel/infer"
	"bushel/model"
	"bushel/parse"
	"bushel/samples"
	"bushel/show"
	"bushel/spot"
	"bushel/syn"
	"bushel/typ"
)

// said tells all of an outcome.
func said(out api.Out) string {
	told := out.Value
	if out.Err != 0 {
		told += out.Err.Error()
	}
	if out.Fault != 0 {
		told += fmt.Sprint(" fault ", out.Fault)
	}
	return strings.TrimSpace(told + " " + strings.Join(out.Trace, ","))
}

// P22.1
func TestRun(t *testing.T) {
	for _, c := range [][2]string{
		{`print "a"`, `{} a`},
		{`1 + 2 * 3`, `7`},
		{`{b = "x", a = A (B 1), c = fn x -> x, d = ref (ref 2)}`, `{a = A (B 1), b = "x", c = fn, d = ref (ref 2)}`},
		{`1 / 0`, `error 9 fault 1`},
		{`let q = print read in read`, `error 9 fault 3 line`},
		{`let f = fn r -> r.b in {x = f {a = 1, b = 2}, y = f {b = "s", c = 3}}`, `{x = 2, y = "s"}`},
		{`let f = fn v -> match v with | B x -> C x | z -> z end in {x = f (B 1), y = f (A 2), z = f (D {})}`, `{x = C 1, y = A 2, z = D {}}`},
		{"let rec sum n = if n then n + sum (n - 1) else 0 in\nlet fst = fn r -> r.a in\nlet all = {b = \"x\", a = sum 4} in\nprint (show (fst all))", `{} 10`},
	} {
		out, err := driver.Run([]byte(c[0]), []string{"line"}, 1000, 10000)
		if err != nil || said(out) != c[1] {
			t.Errorf("%s: %s %v, not %s", c[0], said(out), err, c[1])
		}
	}
}

// many is a program whose code has too many instructions: each use of f is told of 100 labels.
func many() string {
	s := "let f = fn r -> {"
	for i := range 100 {
		if i%10 == 0 {
			s += fmt.Sprintf(",z%d=0", i)
		}
		s += fmt.Sprintf("+r.a%d", i)
	}
	s += "} in fn s -> let g = fn s -> {"
	for i := range 10 {
		s += fmt.Sprintf(",b%d=%s", i, strings.TrimSuffix(strings.Repeat("(f {a=1|s}).z0+", 10), "+"))
	}
	return strings.ReplaceAll(s, "{,", "{") + "} in g s"
}

// P22.1: each stage's error, wrapped with its name.
func TestErrors(t *testing.T) {
	for _, c := range []struct {
		src, text string
		code      api.Code
	}{
		{`1 + ?`, "1:5: parse: 4: error 2", api.ErrLex},
		{"1 +\n)", "2:1: parse: 4: error 3", api.ErrParse},
		{``, "1:1: parse: 0: error 3", api.ErrParse},
		{strings.Repeat(" ", api.MaxSource+1), "parse: error 6", api.ErrLimit},
		{strings.Repeat("fn x -> ", 60) + "1", "1:1: parse: 0: error 6", api.ErrLimit},
		{"1 +\n x", "2:2: type: 5: error 4", api.ErrScope},
		{"\n 1 2", "2:2: type: 2: error 5", api.ErrType},
		{many(), "code: error 6", api.ErrLimit},
	} {
		p, err := driver.Compile([]byte(c.src))
		if err == nil || len(p.Image.Funs) > 0 || p.Type.Kind != 0 || spot.Number(err) != c.code || !errors.Is(err, c.code) {
			t.Errorf("%.40s: %v", c.src, err)
			continue
		}
		if got := driver.Report([]byte(c.src), err); got != c.text {
			t.Errorf("%.40s: %s, not %s", c.src, got, c.text)
		}
		out, err2 := driver.Run([]byte(c.src), nil, 100, 100)
		if err2 == nil || err2.Error() != err.Error() || said(out) != "" {
			t.Errorf("%.40s: %v %v", c.src, out, err2)
		}
	}
	for _, half := range []int{0, -1, api.MaxWords + 1} {
		out, err := driver.Run([]byte("1"), nil, half, 100)
		if err == nil || err.Error() != "run: error 1" || !errors.Is(err, api.ErrArg) || said(out) != "" {
			t.Error(half, out, err)
		}
	}
}

// P22.2
func TestReport(t *testing.T) {
	if driver.Report(nil, nil) != "" || driver.Report([]byte("a"), errors.New("b")) != "b" || driver.Report([]byte("\n\na"), spot.At(2, api.ErrLex)) != "3:1: 2: error 2" {
		t.Error("reports")
	}
}

// P22.1: what is compiled is what the stages tell.
func TestCompile(t *testing.T) {
	for _, s := range []string{`1`, `fn x -> x`, `let f = fn r -> r.b in f {a = 1, b = 2}`, `A 1`} {
		p, err := driver.Compile([]byte(s))
		if err != nil {
			t.Fatal(err)
		}
		e, _ := parse.Program([]byte(s))
		d, _ := infer.Infer(e)
		c, _ := elab.Core(d)
		m, _ := gen.Image(fold.Fold(c))
		if !code.Same(p.Image, m) || !typ.Same(p.Type, d.T) {
			t.Error(s, p)
		}
	}
}

// program is the text of a program by chance, as it was made with a type, or changed.
func program(i int) (api.Expr, string, bool) {
	r := samples.New(i)
	e, _ := r.Program(2 + i%6)
	if i%2 == 1 {
		other, _ := r.Program(1 + i%3)
		at := &e
		for len(at.L) > 0 && r.Below(4) > 0 {
			at = &at.L[r.Below(len(at.L))]
		}
		*at = other
	}
	text, err := show.Text(e)
	return e, text, err == nil && len(text) <= api.MaxSource
}

// isBegin tells whether a list begins with another one.
func isBegin(a, all []string) bool { return len(a) <= len(all) && slices.Equal(a, all[:len(a)]) }

// T1, T3, T4: the run ends as the model does, or is out of fuel, or memory, behind a beginning of its trace.
func TestAsTheModel(t *testing.T) {
	input := []string{"a", "", "b"}
	ended, full, out := 0, 0, 0
	for i := range 1000 {
		e, text, is := program(i)
		if !is {
			continue
		}
		want := model.Run(e, input, 4000)
		enough := ""
		for _, half := range []int{2, 12, 30, 100, 1000, 20000} {
			for _, fuel := range []int{0, 10, 100, 40000} {
				got, err := driver.Run([]byte(text), input, half, fuel)
				if err != nil {
					if n := spot.Number(err); n != api.ErrScope && n != api.ErrType && n != api.ErrLimit {
						t.Fatal(i, err)
					}
					continue
				}
				switch got.Err {
				case api.ErrFull, api.ErrFuel:
					if want.Err != api.ErrFuel && !isBegin(got.Trace, want.Trace) {
						t.Fatal(i, half, fuel, got, want)
					}
					if got.Err == api.ErrFull {
						if full++; fuel == 40000 && enough != "" {
							t.Fatal(i, half, "it was enough before")
						}
						continue
					}
					out++
				case 0, api.ErrFault:
					if want.Err != api.ErrFuel && said(got) != said(want) {
						t.Fatal(i, half, fuel, said(got), said(want))
					}
					ended++
				default:
					t.Fatal(i, half, fuel, got)
				}
				if fuel == 40000 {
					if enough != "" && enough != said(got) {
						t.Fatal(i, half, said(got), enough)
					}
					enough = said(got)
				}
			}
		}
	}
	if ended < 2500 || full < 800 || out < 2500 {
		t.Error(ended, full, out)
	}
}

// T2, T3: small programs by chance: what has a type is never stuck.
func TestNeverStuck(t *testing.T) {
	typed := 0
	for i := range 60000 {
		e := samples.New(i).Any(2 + i%4)
		for _, name := range syn.Free(e) {
			e = api.Expr{Kind: api.Fn, S: name, L: []api.Expr{e}}
		}
		if _, err := infer.Type(e); err != nil {
			continue
		}
		typed++
		text, err := show.Text(e)
		if err != nil {
			t.Fatal(err)
		}
		want := model.Run(e, []string{"a"}, 3000)
		got, err := driver.Run([]byte(text), []string{"a"}, 100000, 100000)
		if err != nil || want.Err == api.ErrStuck || want.Err != api.ErrFuel && said(got) != said(want) {
			t.Fatal(text, said(got), said(want), err)
		}
	}
	if typed < 3000 {
		t.Error(typed)
	}
}

// T5: any bytes are compiled, or refused with one of the errors.
func TestAnyBytes(t *testing.T) {
	r := samples.New(1)
	good := 0
	words := strings.Fields(`fn let rec in match with end if then else ref print show read ( ) { } = . , | \ -> + - * / < == ^ # ! := x y a b A B 1 2 "s" ;`)
	for i := range 30000 {
		var b []byte
		for range r.Below(14) {
			if i%3 == 0 {
				b = append(b, byte(r.Below(256)))
			} else {
				b = append(b, samples.Pick(r, words...)+" "...)
			}
		}
		was := string(b)
		p, err := driver.Compile(b)
		if string(b) != was {
			t.Fatal("changed")
		}
		if err == nil {
			good++
			if code.Check(p.Image) != nil || !typ.May(p.Type) {
				t.Fatal(was)
			}
			continue
		}
		if n := spot.Number(err); n < api.ErrLex || n > api.ErrLimit {
			t.Fatal(was, err)
		}
		if at, is := spot.Place(err); is && (at < 0 || at > len(b)) {
			t.Fatal(was, err)
		}
	}
	if good < 100 {
		t.Error(good)
	}
}

// P22.3, R2
func TestNothingIsShared(t *testing.T) {
	src := []byte(`let f = fn r -> {a = r.b, q = "s"} in f {b = 1}`)
	was := string(src)
	p, err := driver.Compile(src)
	if err != nil || string(src) != was {
		t.Fatal(err)
	}
	again, _ := driver.Compile(src)
	p.Image.Funs[0].Code[0].Op, p.Image.Texts[0], p.Type.Labels[0] = 99, "changed", "changed"
	third, _ := driver.Compile(src)
	if !code.Same(again.Image, third.Image) || !typ.Same(again.Type, third.Type) || code.Same(p.Image, third.Image) {
		t.Error("shared")
	}
}
