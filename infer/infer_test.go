package infer_test

import (
	"errors"
	"fmt"
	"slices"
	"strconv"
	"strings"
	"testing"

	"bushel/api"
	"bushel/infer"
	"bushel/parse"
	"bushel/samples"
	"bushel/scope"
	"bushel/syn"
	"bushel/typ"
)

func read(t *testing.T, s string) api.Expr {
	t.Helper()
	e, err := parse.Program([]byte(s))
	if err != nil {
		t.Fatalf("%q: %v", s, err)
	}
	return e
}

// typed are programs, and their types; of those that have none the type is empty.
var typed = [][2]string{
	{`1`, `int`},
	{`"a"`, `text`},
	{`read`, `text`},
	{`fn x -> x`, `'0 -> '0`},
	{`fn x -> fn y -> x`, `'0 -> '1 -> '0`},
	{`fn f -> fn g -> fn x -> f (g x)`, `('0 -> '1) -> ('2 -> '0) -> '2 -> '1`},
	{`fn r -> r.a`, `{a : '0 | ..0} -> '0`},
	{`fn x -> x x`, ``},
	{`(fn x -> x) 1`, `int`},
	{`1 2`, ``},
	{`"a" 1`, ``},
	// Let: many types of values alone.
	{`let i = fn x -> x in {a = i 1, b = i "s"}`, `{a : int, b : text}`},
	{`let i = (fn x -> x) (fn x -> x) in {a = i 1, b = i "s"}`, ``},
	{`let i = (fn x -> x) (fn x -> x) in i 1`, `int`},
	{`let i = fn x -> x in let j = i in {a = j 1, b = j "s"}`, `{a : int, b : text}`},
	{`let r = {f = fn x -> x, g = 1} in {a = r.f 1, b = r.f "s"}`, `{a : int, b : text}`},
	{`let r = {f = fn x -> x, g = 1 + 1} in {a = r.f 1, b = r.f "s"}`, ``},
	{`let r = A (fn x -> x) in r`, `<A : '0 -> '0 | ..0>`},
	{`let v = A 1 in {a = match v with | A x -> 1 end, b = match v with | A x -> 1 | B y -> 2 end}`, `{a : int, b : int}`},
	{`let v = A (1 + 1) in {a = match v with | A x -> 1 end, b = match v with | A x -> 1 | B y -> 2 end}`, ``},
	{`let r = ref (fn x -> x) in r`, `ref ('0 -> '0)`},
	{`let r = ref (fn x -> x) in let q = r := (fn n -> n + 1) in !r "s"`, ``},
	{`let c = {a = 1 | {}} in c`, `{a : int}`},
	{`fn x -> let y = x in {a = y 1, b = y "s"}`, ``},
	{`fn x -> let y = fn z -> x in {a = y 1, b = y "s"}`, `'0 -> {a : '0, b : '0}`},
	{`fn x -> let f = fn y -> let q = x == y in y in f "s"`, ``},
	{`let x = x in 1`, `?scope`},
	// Rec.
	{`let rec f x = f x in f`, `'0 -> '1`},
	{`let rec f x = x in {a = f 1, b = f "s"}`, `{a : int, b : text}`},
	{`let rec f x = let q = f 1 in f "s" in f`, ``},
	{`let rec f x = f in f`, ``},
	{`let rec f f = f in f`, `'0 -> '0`},
	{`let rec f n = if n then n + f (n - 1) else 0 in f 3`, `int`},
	{`fn x -> let rec f y = x in {a = f 1, b = f "s"}`, `'0 -> {a : '0, b : '0}`},
	// Records.
	{`{}`, `{}`},
	{`{b = 1, a = "s"}`, `{a : text, b : int}`},
	{`{a = 1}.a`, `int`},
	{`{a = 1}.b`, ``},
	{`1 .a`, ``},
	{`fn r -> r.a + r.b`, `{a : int, b : int | ..0} -> int`},
	{`fn r -> r.a.b`, `{a : {b : '0 | ..0} | ..1} -> '0`},
	{`fn r -> {a = r.a, r = r}`, `{a : '0 | ..0} -> {a : '0, r : {a : '0 | ..0}}`},
	{`fn r -> {a = 1 | r}`, `{..0} -> {a : int | ..0}`},
	{`{a = 1 | {a = 2}}`, ``},
	{`{a = 1 | {b = 2}}`, `{a : int, b : int}`},
	{`{a = 1 | 2}`, ``},
	{`fn r -> {a = r.a | r}`, ``},
	{`fn r -> {a = 1 | {b = r.c | r}}`, `{c : '0 | ..0} -> {a : int, b : '0, c : '0 | ..0}`},
	{`fn r -> {b = 1 | {a = 1 | r}}`, `{..0} -> {a : int, b : int | ..0}`},
	{`fn r -> {a = 1 | {a = 1 | r}}`, ``},
	{`fn r -> r\a`, `{a : '0 | ..0} -> {..0}`},
	{`{a = 1, b = 2}\a`, `{b : int}`},
	{`{b = 2}\a`, ``},
	{`fn r -> r\a.a`, ``},
	{`fn r -> {a = "s" | r\a}`, `{a : '0 | ..0} -> {a : text | ..0}`},
	{`fn r -> {r with a = 1}`, `{a : '0 | ..0} -> {a : int | ..0}`},
	{`{{a = 1, b = 2} with a = "s"}`, `{a : text, b : int}`},
	{`{{b = 2} with a = "s"}`, ``},
	{`fn r -> let q = r.a in r`, `{a : '0 | ..0} -> {a : '0 | ..0}`},
	{`let f = fn r -> r.a in f {a = 1, b = 2} + f {a = 3}`, `int`},
	{`fn f -> f {a = 1, b = 2} + f {a = 3}`, ``},
	{`fn r -> if 1 then r.a else r`, ``},
	{`fn r -> fn s -> if r.a then r else s`, `{a : int | ..0} -> {a : int | ..0} -> {a : int | ..0}`},
	{`fn r -> if 1 then {a = 1 | r} else {b = 1 | r}`, ``},
	// Variants.
	{`A 1`, `<A : int | ..0>`},
	{`if 1 then A 1 else B "s"`, `<A : int, B : text | ..0>`},
	{`if 1 then A 1 else A "s"`, ``},
	{`match A 1 with | A x -> x end`, `int`},
	{`match A 1 with | B x -> x end`, ``},
	{`match C 1 with | A x -> x | z -> 0 end`, `int`},
	{`fn v -> match v with | A x -> x | B y -> 0 end`, `<A : int, B : '0> -> int`},
	{`fn v -> match v with | A x -> x | z -> z end`, `<A : <..0> | ..0> -> <..0>`},
	{`fn v -> match v with | A x -> x | z -> v end`, ``},
	{`fn v -> match v with | A x -> B x | z -> z end`, `<A : '0, B : '0 | ..0> -> <B : '0 | ..0>`},
	{`fn v -> match v with | A x -> A 1 | z -> z end`, ``},
	{`fn v -> match v with | z -> z end`, `<..0> -> <..0>`},
	{`fn v -> match v with | A x -> v | z -> B 1 end`, `<A : '0, B : int | ..0> -> <A : '0, B : int | ..0>`},
	{`match 1 with | z -> 1 end`, ``},
	{`match {} with | z -> 1 end`, ``},
	{`match A 1 with | A x -> 1 | z -> "s" end`, ``},
	{`fn v -> match v with | A x -> match x with | B y -> y end end`, `<A : <B : '0>> -> '0`},
	// The rest.
	{`if 1 then 2 else 3`, `int`},
	{`if "s" then 2 else 3`, ``},
	{`if 1 then 2 else "s"`, ``},
	{`1 + 2 * 3 - 4 / 5`, `int`},
	{`1 < 2`, `int`},
	{`1 == 2`, `int`},
	{`"a" == "b"`, ``},
	{`"a" < "b"`, ``},
	{`"a" + "b"`, ``},
	{`"a" ^ "b"`, `text`},
	{`"a" ^ 1`, ``},
	{`1 ^ "a"`, ``},
	{`"a" # 1`, `int`},
	{`1 # "a"`, ``},
	{`fn x -> fn y -> x # y`, `text -> int -> int`},
	{`ref 1`, `ref int`},
	{`!(ref 1)`, `int`},
	{`!1`, ``},
	{`fn r -> !r`, `ref '0 -> '0`},
	{`ref 1 := 2`, `{}`},
	{`ref 1 := "s"`, ``},
	{`1 := 1`, ``},
	{`fn r -> fn x -> r := x`, `ref '0 -> '0 -> {}`},
	{`fn r -> r := r`, ``},
	{`print "s"`, `{}`},
	{`print 1`, ``},
	{`show 1`, `text`},
	{`show "s"`, ``},
	{`x`, `?scope`},
}

// P12.1
func TestType(t *testing.T) {
	for _, c := range typed {
		e := read(t, c[0])
		got, err := infer.Type(e)
		switch want := c[1]; want {
		case "", "?scope":
			code := api.ErrType
			if want != "" {
				code = api.ErrScope
			}
			var s *api.Spot
			if got != "" || !errors.As(err, &s) || s.Err != code || !slices.Contains(places(e), s.At) {
				t.Errorf("%s: %q %v", c[0], got, err)
			}
			if d, err2 := infer.Infer(e); d.E.Kind != 0 || d.L != nil || err2 == nil || err2.Error() != err.Error() {
				t.Errorf("%s: %v", c[0], err2)
			}
		default:
			if got != want || err != nil {
				t.Errorf("%s: %q, not %q, %v", c[0], got, want, err)
			}
		}
	}
}

// places lists all At.
func places(e api.Expr) []int {
	l := []int{e.At}
	for _, part := range e.L {
		l = append(l, places(part)...)
	}
	return l
}

// P12.1, P1
func TestRefuses(t *testing.T) {
	for _, e := range []api.Expr{{}, {Kind: api.Fn}, {Kind: api.App, L: []api.Expr{{}, {}}}} {
		if s, err := infer.Type(e); s != "" || err != api.ErrArg {
			t.Error(s, err)
		}
		if d, err := infer.Infer(e); d.E.Kind != 0 || err != api.ErrArg {
			t.Error(d, err)
		}
	}
	// A name that isn't bound counts ahead of what has no type.
	if _, err := infer.Type(read(t, "1 1 q")); !errors.Is(err, api.ErrScope) {
		t.Error(err)
	}
}

// doubling has types of twice as many nodes, level by level.
func doubling(levels int, last string) string {
	s := "let p0 = fn x -> x in "
	for i := 1; i <= levels; i++ {
		n, was := string(rune('a'+i)), string(rune('a'+i-1))
		if i == 1 {
			was = "p0"
		}
		s += "let " + n + " = {l = " + was + ", r = " + was + "} in "
	}
	return s + last
}

// P12.1: limits, behind all that has no type.
func TestLimits(t *testing.T) {
	if got, err := infer.Type(read(t, doubling(9, "1"))); got != "int" || err != nil {
		t.Error(got, err)
	}
	for last, want := range map[string]api.Code{"1": api.ErrLimit, `1 + "s"`: api.ErrType, "l": api.ErrLimit, "fn q -> q q": api.ErrType} {
		e := read(t, doubling(20, last))
		got, err := infer.Type(e)
		var s *api.Spot
		if got != "" || !errors.As(err, &s) || s.Err != want || !slices.Contains(places(e), s.At) {
			t.Error(last, got, err)
		}
		if _, err2 := infer.Infer(e); err2 == nil || err2.Error() != err.Error() {
			t.Error(last, err2)
		}
	}
}

// single has a type of twice as many nodes, level by level, that has no variables for all of which it is told.
func single(levels int, name, first, last string) string {
	s := "let " + name + "0 = (fn z -> z) " + first + " in "
	for i := 1; i <= levels; i++ {
		was := name + strconv.Itoa(i-1)
		s += "let " + name + strconv.Itoa(i) + " = (fn z -> z) {l = " + was + ", r = " + was + "} in "
	}
	return s + last
}

// P12.1: limits of one name's type, of two types that are to be one, of variables.
func TestOtherLimits(t *testing.T) {
	both := func(last string) string { return single(20, "a", "1", single(20, "b", "1", last)) }
	great := "let p0 = fn a -> fn b -> a in "
	for i := 1; i <= 8; i++ {
		great += fmt.Sprintf("let p%d = {l = p%d, r = p%d} in ", i, i-1, i-1)
	}
	great += "{"
	for i := range 25 {
		great += fmt.Sprintf("q%d = (fn z -> 1) {a = p8, b = p8, c = p8, d = p8, e = p8, f = p8, g = p8, h = p8}, ", i)
	}
	great += "r = 1}"
	for i, c := range []struct {
		s    string
		want api.Code
	}{
		{single(9, "a", "1", "1"), 0},
		{single(20, "a", "1", "1"), api.ErrLimit},
		{single(20, "a", "1", "1 1"), api.ErrType},
		{single(20, "a", "1", `fn p -> let q = (fn x -> 1) (if 1 then p else a20) in let f = fn x -> x in f 1`), api.ErrLimit},
		{single(20, "a", "1", `fn p -> let q = (fn x -> 1) (if 1 then p else a20) in let f = fn x -> x in f 1 2`), api.ErrType},
		{single(20, "a", "1", `fn p -> let q = (fn x -> 1) (if 1 then p else a20) in let f = fn x -> x in 1 2`), api.ErrType},
		{single(20, "a", "1", `let rec f x = a20 in 1`), api.ErrLimit},
		{both("if 1 then a20 else b20"), api.ErrLimit},
		{both("if 1 then a20 else {l = b19, r = 1}"), api.ErrType},
		{great, api.ErrLimit},
	} {
		e := read(t, c.s)
		got, err := infer.Type(e)
		var s *api.Spot
		if c.want == 0 {
			if err != nil {
				t.Error(i, err)
			}
			continue
		}
		if got != "" || !errors.As(err, &s) || s.Err != c.want || !slices.Contains(places(e), s.At) {
			t.Error(i, got, err)
		}
	}
}

// instance tells whether a type is one that another one stands for.
func instance(p, g api.Type, types, rows map[int]api.Type) bool {
	if p.Kind == api.TVar {
		was, is := types[p.N]
		types[p.N] = g
		return !is || typ.Same(was, g)
	}
	if p.Kind != g.Kind {
		return false
	}
	if p.Kind != api.TRec && p.Kind != api.TSum {
		for i := range p.L {
			if !instance(p.L[i], g.L[i], types, rows) {
				return false
			}
		}
		return true
	}
	rest := typ.Row(api.TRec, nil, nil, g.Tail)
	for i, l := range g.Labels {
		j := slices.Index(p.Labels, l)
		if j < 0 {
			rest.Labels, rest.L = append(rest.Labels, l), append(rest.L, g.L[i])
		} else if !instance(p.L[j], g.L[i], types, rows) {
			return false
		}
	}
	if len(g.Labels)-len(rest.Labels) != len(p.Labels) {
		return false
	}
	if p.Tail < 0 {
		return len(rest.L) == 0 && g.Tail < 0
	}
	was, is := rows[p.Tail]
	rows[p.Tail] = rest
	return !is || typ.Same(was, rest)
}

// reader reads a type's text.
type reader struct {
	words []string
}

func readType(text string) api.Type {
	for _, s := range []string{"(", ")", "{", "}", "<", ">", "|", ",", ":"} {
		text = strings.ReplaceAll(text, s, " "+s+" ")
	}
	r := reader{strings.Fields(strings.ReplaceAll(text, "- >", "->"))}
	return r.whole()
}

func (r *reader) take(s string) bool {
	if len(r.words) == 0 || !strings.HasPrefix(r.words[0], s) {
		return false
	}
	r.words = r.words[1:]
	return true
}

func (r *reader) whole() api.Type {
	a := r.part()
	if r.take("->") {
		return typ.Fn(a, r.whole())
	}
	return a
}

func (r *reader) part() api.Type {
	word := r.words[0]
	r.words = r.words[1:]
	switch {
	case word == "int":
		return integer
	case word == "text":
		return text
	case word == "ref":
		return plain(api.TRef, r.part())
	case word == "{":
		return r.row(api.TRec, "}")
	case word == "<":
		return r.row(api.TSum, ">")
	case word == "(":
		t := r.whole()
		r.take(")")
		return t
	}
	n, _ := strconv.Atoi(word[1:])
	return typ.Var(n)
}

func (r *reader) row(kind int, end string) api.Type {
	t := typ.Row(kind, nil, nil, -1)
	for !r.take(end) {
		word := r.words[0]
		r.words = r.words[1:]
		switch {
		case strings.HasPrefix(word, ".."):
			t.Tail, _ = strconv.Atoi(word[2:])
		case word != "|" && word != ",":
			r.take(":")
			t.Labels, t.L = append(t.Labels, word), append(t.L, r.whole())
		}
	}
	return t
}

// P12.1, T2: what was made with a type has it, or one that stands for it.
func TestMadeWithAType(t *testing.T) {
	for i := range 4000 {
		e, want := samples.New(i).Program(2 + i%6)
		if !syn.May(e) {
			continue
		}
		text, err := infer.Type(e)
		if err != nil {
			t.Fatal(i, err)
		}
		d, err := infer.Infer(e)
		if err != nil {
			t.Fatal(i, err)
		}
		greatest := readType(text)
		if typ.Text(greatest) != text || !instance(greatest, want, map[int]api.Type{}, map[int]api.Type{}) {
			t.Fatal(i, text, typ.Text(want))
		}
		check(t, d)
	}
}

// P12.2, T3: what is changed by chance is refused, or typed as the rules say.
func TestChanged(t *testing.T) {
	good, bad := 0, 0
	for i := range 6000 {
		r := samples.New(i)
		e, _ := r.Program(2 + i%4)
		other, _ := r.Program(1 + i%3)
		if !change(r, &e, other) || !syn.May(e) || scope.Check(e) != nil {
			continue
		}
		d, err := infer.Infer(e)
		if err != nil {
			bad++
			continue
		}
		good++
		check(t, d)
	}
	if good < 300 || bad < 300 {
		t.Error(good, bad)
	}
}

// change puts another expression at a place of one, or lets two parts change places.
func change(r *samples.Source, e *api.Expr, other api.Expr) bool {
	for len(e.L) > 0 && r.Below(4) > 0 {
		e = &e.L[r.Below(len(e.L))]
	}
	if len(e.L) > 1 && r.Below(2) == 0 {
		e.L[0], e.L[1] = e.L[1], e.L[0]
		return true
	}
	*e = other
	return true
}
