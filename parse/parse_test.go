package parse_test

import (
	"errors"
	"fmt"
	"strings"
	"testing"

	"bushel/api"
	"bushel/lex"
	"bushel/parse"
	"bushel/samples"
	"bushel/show"
	"bushel/syn"
)

type expr = api.Expr

func read(t *testing.T, s string) expr {
	t.Helper()
	e, err := parse.Program([]byte(s))
	if err != nil {
		t.Fatalf("%q: %v", s, err)
	}
	return e
}

// fault reads what must be refused, and tells where, and why.
func fault(t *testing.T, s string) (int, api.Code) {
	t.Helper()
	e, err := parse.Program([]byte(s))
	var spot *api.Spot
	if !errors.As(err, &spot) || !syn.Same(e, expr{}) {
		t.Fatalf("%q: %v %v", s, e, err)
	}
	return spot.At, spot.Err
}

// P7.1: each reads as the text, with all brackets, that stands beside it.
func TestProgram(t *testing.T) {
	for _, c := range [][2]string{
		{"f x y", "(f x) y"},
		{"f (x y)", "f (x y)"},
		{"fn a -> fn b -> a b", "fn a -> fn b -> a b"},
		{"let x=1in x", "let x = 1 in x"},
		{"let rec f x = f x in f", "let rec f x = f x in f"},
		{"1+2*3-4^5", "((1 + (2 * 3)) - 4) ^ 5"},
		{"1-2-3", "(1 - 2) - 3"},
		{"1/2*3#4", "((1 / 2) * 3) # 4"},
		{"1+2<3*4", "(1 + 2) < (3 * 4)"},
		{"1==2+3", "1 == (2 + 3)"},
		{"a:=b:=c", "a := (b := c)"},
		{"a<b:=c==d", "(a < b) := (c == d)"},
		{"ref a b", "(ref a) b"},
		{"ref a.b", "ref (a.b)"},
		{"!a.b\\c d", "(!((a.b)\\c)) d"},
		{"show 1 + 2", "(show 1) + 2"},
		{"print \"a\" ^ \"b\"", "(print \"a\") ^ \"b\""},
		{"A 1 2", "(A 1) 2"},
		{"A {}.b", "A ({}.b)"},
		{"f {} read 1 \"s\" (g)", "((((f {}) read) 1) \"s\") g"},
		{"{b = 1, a = 2}", "{a = 2, b = 1}"},
		{"{a = fn x -> x, b = if 1 then 2 else 3}", "{a = fn x -> x, b = if 1 then 2 else 3}"},
		{"{a = 1 | {}}", "{a = 1 | {}}"},
		{"{a = 1 | {b = 2 | r}}", "{a = 1 | {b = 2 | r}}"},
		{"{r with a = 1}", "{r with a = 1}"},
		{"{r.b\\c with a = 1}", "{((r.b)\\c) with a = 1}"},
		{"{(f x) with a = 1}", "{(f x) with a = 1}"},
		{"{{} with a = 1}", "{{} with a = 1}"},
		{"match x with | B y -> 1 | A x -> 2 end", "match x with | A x -> 2 | B y -> 1 end"},
		{"match x with | B y -> 1 | A x -> 2 | z -> 3 end", "match x with | A x -> 2 | B y -> 1 | z -> 3 end"},
		{"match x with | z -> match z with | A a -> 1 end end", "match x with | z -> match z with | A a -> 1 end end"},
		{"if if 1 then 2 else 3 then 4 else fn x -> 5", "if if 1 then 2 else 3 then 4 else fn x -> 5"},
		{"((((1))))", "1"},
		{"fn x -> x := 1", "fn x -> x := 1"},
	} {
		got, err := show.Text(read(t, c[0]))
		if err != nil || got != c[1] {
			t.Errorf("%q: %q, not %q, %v", c[0], got, c[1], err)
		}
	}
}

// places tells the kinds of parts, and where they stand, from the top.
func places(e expr) string {
	s := fmt.Sprint(e.Kind, "@", e.At)
	for _, part := range e.L {
		s += " " + places(part)
	}
	return s
}

// P7.1: where parts stand.
func TestPlaces(t *testing.T) {
	for _, c := range [][2]string{
		{" x", "3@1"},
		{"( ( x ) )", "3@4"},
		{"(f x) (y)", "5@1 5@1 3@1 3@3 3@7"},
		{" (a) + b * c", "16@2 3@2 16@7 3@7 3@11"},
		{"(a.b)\\c", "11@1 9@1 3@1"},
		{"(a) := b := c", "19@1 3@1 19@7 3@7 3@12"},
		{" {(a) with b = c}", "12@1 3@15 3@3"},
		{" {a = b | (c)}", "10@1 3@6 3@11"},
		{" {b = x, a = y}", "8@1 3@13 3@6"},
		{" fn x -> y", "4@1 3@9"},
		{" let x = y in z", "6@1 3@9 3@14"},
		{" let rec f x = y in z", "7@1 3@15 3@20"},
		{" if (x) then y else z", "15@1 3@5 3@13 3@20"},
		{" match x with | B b -> y | A a -> 1 | c -> read end", "14@1 3@7 1@34 3@23 22@43"},
		{" A x", "13@1 3@3"},
		{" ref (! a)", "17@1 18@6 3@8"},
		{" print (show 1)", "20@1 21@8 1@13"},
		{" \"a\" # 0", "16@1 2@1 1@7"},
	} {
		if got := places(read(t, c[0])); got != c[1] {
			t.Errorf("%q: %s, not %s", c[0], got, c[1])
		}
	}
}

// P7.1
func TestFaults(t *testing.T) {
	for _, c := range []struct {
		text string
		at   int
	}{
		{"", 0},
		{"   ", 3},
		{"1 + ", 4},
		{"(1", 2},
		{"1)", 1},
		{"1 ; 2", 2},
		{"1 < 2 < 3", 6},
		{"1 == 2 == 3", 7},
		{"f A 1", 2},
		{"f fn x -> x", 2},
		{"f ref x", 2},
		{"f !x", 2},
		{"1 + fn x -> x", 4},
		{"a := fn x -> x", 5},
		{"ref ref x", 4},
		{"ref !a", 4},
		{"A B 1", 2},
		{"A", 1},
		{"- 1", 0},
		{"fn X -> 1", 3},
		{"fn x y -> 1", 5},
		{"fn let -> 1", 3},
		{"let x y = 1 in 2", 6},
		{"let rec f = 1 in f", 10},
		{"let x = 1", 9},
		{"if 1 then 2", 11},
		{"x.", 2},
		{"x.A", 2},
		{"x.1", 2},
		{"{a b}", 3},
		{"{a + 1 with b = 2}", 3},
		{"{a = 1 | r, b = 2}", 10},
		{"{a = 1, b = 2 | r}", 14},
		{"{a = 1,}", 7},
		{"{, }", 1},
		{"{r with A = 1}", 8},
		{"{r with a = 1, b = 2}", 13},
		{"{f x with a = 1}", 3},
		{"{A = 1}", 1},
		{"match x with end", 13},
		{"match x with A y -> 1 end", 13},
		{"match x with | A -> 1 end", 17},
		{"match x with | a -> 1 | A y -> 2 end", 22},
		{"match x with | a -> 1 | b -> 2 end", 22},
		{"match x with | A a -> match y with | B b -> 1 end z -> 3 end", 50},
		{"match x with | A y -> 1", 23},
		{"match x with | A y -> 1 | end", 26},
		{"match x with | 1 -> 2 end", 15},
		{"read.a read in", 12},
		{"1 2 then", 4},
		{"{a = 1, a = 2}", 8},
		{"{a = 1, b = 2, a", 15},
		{"{a = 1, a + }", 8},
		{"{b = {a = 1}, a = 1, b = )", 21},
		{"match x with | A y -> 1 | A", 26},
		{"match x with | A y -> 1 | B x -> 2 | A z -> 3 end )", 37},
		{"{a = 1, a = 2, ) }", 8},
		{"{a = ), a = 2}", 5},
	} {
		if at, code := fault(t, c.text); at != c.at || code != api.ErrParse {
			t.Errorf("%q: %d %v, not %d", c.text, at, code, c.at)
		}
	}
}

// P7.1: the tokens' errors count ahead of all others.
func TestTokensFaults(t *testing.T) {
	if at, code := fault(t, ") ?"); at != 2 || code != api.ErrLex {
		t.Error(at, code)
	}
	if e, err := parse.Program([]byte(strings.Repeat(")", api.MaxSource+1))); err != api.ErrLimit || e.Kind != 0 {
		t.Error(err)
	}
}

// P7.1
func TestLimits(t *testing.T) {
	deep := func(n int) string { return strings.Repeat("fn x -> ", n) + "1" }
	if syn.Depth(read(t, deep(59))) != 60 {
		t.Error("60 deep")
	}
	sum := func(n int) string { return "{a = " + strings.Repeat("(1+2)*(", n) + "1" + strings.Repeat(")", n) + "}" }
	record := func(n int) string {
		var l []string
		for i := range n {
			l = append(l, fmt.Sprintf("a%d = 1", i))
		}
		return "{" + strings.Join(l, ", ") + "}"
	}
	match := func(n int) string {
		s := "match 1 with"
		for i := range n {
			s += fmt.Sprintf(" | A%d x -> 1", i)
		}
		return s + " end"
	}
	// Each label's part has 99 nodes.
	wide := func(n int, last string) string {
		var l []string
		for i := range n {
			l = append(l, fmt.Sprintf("a%d=x%s", i, strings.Repeat(" x", 49)))
		}
		return "{" + strings.Join(l, ",") + ",z=" + last + "}"
	}
	if e := read(t, wide(15, "f x x x x x x")); syn.Nodes(e) != 1+15*99+13 {
		t.Error(syn.Nodes(e))
	}
	if e := read(t, wide(15, "!(f x x x x x x)")); syn.Nodes(e) != api.MaxNodes {
		t.Error(syn.Nodes(e))
	}
	if at, code := fault(t, wide(15, "!(f x x x x x x x)")); at != 0 || code != api.ErrLimit {
		t.Error(at, code)
	}
	for _, s := range []string{sum(10), record(30), match(30)} {
		read(t, s)
	}
	for _, s := range []string{deep(60), strings.Repeat("f ", 60) + "x", sum(60), record(31), match(31), strings.Repeat("(", 900) + deep(70) + strings.Repeat(")", 900)} {
		if at, code := fault(t, s); at != 0 || code != api.ErrLimit {
			t.Errorf("%.20q: %d %v", s, at, code)
		}
	}
	if at, code := fault(t, record(31)+")"); at != len(record(31)) || code != api.ErrParse {
		t.Error(at, code)
	}
	read(t, strings.Repeat("(", 1900)+"1"+strings.Repeat(")", 1900))
}

// P7.2, T5
func TestTextIsReadAsIt(t *testing.T) {
	r := samples.New(7)
	for i := range 3000 {
		e := r.Any(1 + i%9)
		text, err := show.Text(e)
		if err != nil {
			t.Fatal(e)
		}
		if len(text) <= api.MaxSource && !syn.Same(read(t, text), e) {
			t.Fatal(text)
		}
	}
}

// grammar is that of the document; what it doesn't list are tokens.
var grammar = map[string][]string{
	"E":      {"fn name -> E", "let name = E in E", "let rec name name = E in E", "if E then E else E", "match E with ARMS end", "SET"},
	"ARMS":   {"TARMS", "TARMS NARM", "NARM"},
	"TARMS":  {"| tag name -> E", "| tag name -> E TARMS"},
	"NARM":   {"| name -> E"},
	"SET":    {"CMP", "CMP := SET"},
	"CMP":    {"SUM", "SUM < SUM", "SUM == SUM"},
	"SUM":    {"MUL", "SUM + MUL", "SUM - MUL", "SUM ^ MUL"},
	"MUL":    {"APP", "MUL * APP", "MUL / APP", "MUL # APP"},
	"APP":    {"PRE", "APP POST"},
	"PRE":    {"ref POST", "print POST", "show POST", "! POST", "tag POST", "POST"},
	"POST":   {"PRIM", "POST . name", "POST \\ name"},
	"PRIM":   {"number", "text", "name", "read", "( E )", "{ }", "{ FIELDS }", "{ name = E BAR E }", "{ POST with name = E }"},
	"FIELDS": {"name = E", "name = E , FIELDS"},
}

// item is how far a rule has been met, and from which token on.
type item struct {
	left, rule string
	dot, from  int
}

// earley tells at which of the terminals no program goes on, or -1 if all are a program, or how many there are if one could go on.
func earley(words []string) int {
	sets := []map[item]bool{{{"S", "E", 0, 0}: true}}
	for at := 0; ; at++ {
		queue := []item{}
		for it := range sets[at] {
			queue = append(queue, it)
		}
		next := map[item]bool{}
		add := func(it item) {
			if !sets[at][it] {
				sets[at][it] = true
				queue = append(queue, it)
			}
		}
		for len(queue) > 0 {
			it := queue[0]
			queue = queue[1:]
			parts := strings.Fields(it.rule)
			if it.dot == len(parts) {
				for up := range sets[it.from] {
					if l := strings.Fields(up.rule); up.dot < len(l) && l[up.dot] == it.left {
						add(item{up.left, up.rule, up.dot + 1, up.from})
					}
				}
				continue
			}
			s := parts[it.dot]
			for _, rule := range grammar[s] {
				add(item{s, rule, 0, at})
			}
			if at < len(words) && (words[at] == s || s == "BAR" && words[at] == "|") {
				next[item{it.left, it.rule, it.dot + 1, it.from}] = true
			}
		}
		if at == len(words) {
			if sets[at][item{"S", "E", 1, 0}] {
				return -1
			}
			return at
		}
		if len(next) == 0 {
			return at
		}
		sets = append(sets, next)
	}
}

// P7.1: random tokens, held against the grammar.
func TestAgainstGrammar(t *testing.T) {
	r := samples.New(3)
	all := strings.Fields("fn let rec in match with end if then else ref print show read ( ) { } = . , | \\ -> + - * / < == ^ # ! := ; x A 1 \"s\"")
	good := 0
	for i := range 2500 {
		text, _ := show.Text(r.Any(2 + i%4))
		tokens, _ := lex.Cut([]byte(text))
		var words, kinds []string
		for j, tok := range tokens {
			end := len(text)
			if j+1 < len(tokens) {
				end = tokens[j+1].At
			}
			words = append(words, strings.TrimSpace(text[tok.At:end]))
		}
		if len(words) > 60 {
			continue
		}
		for range r.Below(3) {
			at := r.Below(len(words))
			switch r.Below(3) {
			case 0:
				words[at] = samples.Pick(r, all...)
			case 1:
				words = append(words[:at:at], append([]string{samples.Pick(r, all...)}, words[at:]...)...)
			default:
				words = append(words[:at:at], words[at+1:]...)
			}
			if len(words) == 0 {
				break
			}
		}
		text = strings.Join(words, " ")
		tokens, err := lex.Cut([]byte(text))
		if err != nil {
			continue
		}
		// All labels are made unlike, so that none stands twice.
		text = ""
		for j, tok := range tokens {
			kind := map[int]string{lex.Name: "name", lex.Tag: "tag", lex.Number: "number", lex.Text: "text"}[tok.Kind]
			word := map[int]string{lex.Name: fmt.Sprint("n", j), lex.Tag: fmt.Sprint("T", j), lex.Number: "1", lex.Text: `"s"`}[tok.Kind]
			if kind == "" {
				kind, word = tok.S, tok.S
			}
			kinds = append(kinds, kind)
			text += word + " "
		}
		want := earley(kinds)
		e, err := parse.Program([]byte(text))
		if want < 0 {
			if good++; err != nil || !syn.May(e) {
				t.Fatalf("%q: %v", text, err)
			}
			continue
		}
		place := len(text)
		if cut, _ := lex.Cut([]byte(text)); want < len(cut) {
			place = cut[want].At
		}
		if at, code := fault(t, text); at != place || code != api.ErrParse {
			t.Fatalf("%q: %d %v, not %d", text, at, code, place)
		}
	}
	if good < 100 {
		t.Error(good)
	}
}

// P1, R2: any bytes.
func TestAnyBytes(t *testing.T) {
	r := samples.New(5)
	for range 20000 {
		b := make([]byte, r.Below(30))
		for i := range b {
			b[i] = samples.Pick(r, []byte("a1A\"\\={}()|.,->fn in x := < \n?")...)
		}
		was := string(b)
		e, err := parse.Program(b)
		if string(b) != was || (err == nil) != syn.May(e) {
			t.Fatalf("%q %v", b, err)
		}
	}
}
