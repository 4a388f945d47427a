package evid_test

import (
	"fmt"
	"math"
	"slices"
	"strings"
	"testing"

	"bushel/api"
	"bushel/evid"
	"bushel/label"
	"bushel/samples"
	"bushel/typ"
)

func row(kind, tail int, labels string) api.Type {
	names := strings.Fields(labels)
	return typ.Row(kind, names, slices.Repeat([]api.Type{{Kind: api.TInt, Tail: -1}}, len(names)), tail)
}

// P13.1
func TestOf(t *testing.T) {
	for i, c := range []struct {
		row  api.Type
		s    string
		want api.Evid
	}{
		{row(api.TRec, 5, "a c d"), "c", api.Evid{N: 1, Row: 5, Label: "c"}},
		{row(api.TRec, 5, "a d"), "c", api.Evid{N: 1, Row: 5, Label: "c"}},
		{row(api.TSum, -1, "A B"), "B", api.Evid{N: 1, Row: -1}},
		{row(api.TRec, -1, ""), "x", api.Evid{Row: -1}},
		{row(api.TSum, 0, ""), "x", api.Evid{Row: 0, Label: "x"}},
		{row(api.TRec, 0, "a b c"), "a", api.Evid{Row: 0, Label: "a"}},
		{row(api.TRec, -1, "a b c"), "zz", api.Evid{N: 3, Row: -1}},
		{row(api.TRec, -1, "a b c"), "Q", api.Evid{N: 0, Row: -1}},
	} {
		if got, err := evid.Of(c.row, c.s); got != c.want || err != nil {
			t.Error(i, got, err)
		}
	}
	for i, bad := range []api.Type{{}, typ.Var(0), {Kind: api.TInt, Tail: -1}, row(api.TRec, -2, "a"), row(api.TRec, -1, "b a"), row(api.TFn, -1, "")} {
		if got, err := evid.Of(bad, "a"); got != (api.Evid{}) || err != api.ErrArg {
			t.Error(i, got, err)
		}
	}
	if got, err := evid.Of(row(api.TRec, 1, "a"), ""); got != (api.Evid{}) || err != api.ErrArg {
		t.Error(got, err)
	}
}

// P13.1
func TestNameAndTerm(t *testing.T) {
	for want, n := range map[string]api.Need{"$5.c": {Row: 5, Label: "c"}, "$0.Ab": {Row: 0, Label: "Ab"}, "$-1.": {Row: -1}} {
		if got := evid.Name(n); got != want {
			t.Error(got, want)
		}
	}
	for i, c := range []struct {
		e    api.Evid
		want string
	}{
		{api.Evid{Row: -1}, "{1 0    []}"},
		{api.Evid{N: 7, Row: -1, Label: "a"}, "{1 7    []}"},
		{api.Evid{N: 7, Row: -9}, "{1 7    []}"},
		{api.Evid{Row: 0, Label: "a"}, "{3 0 $0.a   []}"},
		{api.Evid{N: 1, Row: 5, Label: "c"}, "{16 0 +   [{3 0 $5.c   []} {1 1    []}]}"},
	} {
		if got := whole(evid.Term(c.e)); got != c.want {
			t.Error(i, got, c.want)
		}
	}
}

// whole tells all of a core expression.
func whole(e api.Core) string {
	var l []string
	for _, part := range e.L {
		l = append(l, whole(part))
	}
	return fmt.Sprintf("{%d %d %s %s %s [%s]}", e.Kind, e.N, e.S, e.T, strings.Join(e.Names, ","), strings.Join(l, " "))
}

// P13.2
func TestValue(t *testing.T) {
	known := map[api.Need]int{{Row: 5, Label: "c"}: 3, {Row: 0, Label: "a"}: 0}
	for i, c := range []struct {
		e    api.Evid
		want int
		err  error
	}{
		{api.Evid{N: 4, Row: -1}, 4, nil},
		{api.Evid{N: 4, Row: math.MinInt, Label: "c"}, 4, nil},
		{api.Evid{N: 4, Row: 5, Label: "c"}, 7, nil},
		{api.Evid{N: 4, Row: 0, Label: "a"}, 4, nil},
		{api.Evid{N: 4, Row: 5, Label: "a"}, 0, api.ErrScope},
		{api.Evid{N: 4, Row: 1, Label: "c"}, 0, api.ErrScope},
	} {
		if got, err := evid.Value(c.e, known); got != c.want || err != c.err {
			t.Error(i, got, err)
		}
	}
	if got, err := evid.Value(api.Evid{Row: 1}, nil); got != 0 || err != api.ErrScope {
		t.Error(got, err)
	}
}

// P13.2
func TestNeeds(t *testing.T) {
	lacks := func(tail int) []string {
		return map[int][]string{3: {"b", "a"}, 4: nil, 7: {"z"}}[tail]
	}
	of := typ.Fn(typ.Row(api.TRec, []string{"q"}, []api.Type{row(api.TSum, 7, "A")}, 3), typ.Fn(row(api.TRec, 4, ""), row(api.TRec, 3, "")))
	if got := evid.Needs(of, lacks); !slices.Equal(got, []api.Need{{Row: 7, Label: "z"}, {Row: 3, Label: "b"}, {Row: 3, Label: "a"}}) {
		t.Error(got)
	}
	for _, none := range []api.Type{{}, typ.Var(3), row(api.TRec, -1, "a"), {Kind: api.TRec, Tail: 3, N: 1}} {
		if got := evid.Needs(none, lacks); len(got) > 0 {
			t.Error(got)
		}
	}
	// P1
	if got := evid.Needs(of, nil); len(got) > 0 {
		t.Error(got)
	}
	if got := evid.Needs(of, func(int) []string { panic("no") }); len(got) > 0 {
		t.Error(got)
	}
}

// P13.3, R2
func TestNothingIsKept(t *testing.T) {
	l := []string{"a", "b"}
	got := evid.Needs(row(api.TRec, 1, "c"), func(int) []string { return l })
	got[0].Label = "changed"
	if l[0] != "a" {
		t.Error(l)
	}
	a, b := evid.Term(api.Evid{N: 1, Row: 1, Label: "a"}), evid.Term(api.Evid{N: 1, Row: 1, Label: "a"})
	a.L[0].S = "changed"
	if b.L[0].S != "$1.a" {
		t.Error(b)
	}
}

// P13.4: a row with a Tail, of which known tells what the labels that come to it tell, is like the whole row.
func TestWholeRow(t *testing.T) {
	r := samples.New(8)
	for range 2000 {
		var head, rest []string
		for _, s := range []string{"a", "b", "c", "d", "e", "f"} {
			switch r.Below(3) {
			case 0:
				head = append(head, s)
			case 1:
				rest = append(rest, s)
			}
		}
		s := samples.Pick(r, "a", "b", "c", "d", "e", "f", "cc")
		open, _ := evid.Of(row(api.TRec, 9, strings.Join(head, " ")), s)
		whole, _ := evid.Of(row(api.TRec, -1, strings.Join(label.Join(head, rest), " ")), s)
		behind, _ := evid.Of(row(api.TRec, -1, strings.Join(rest, " ")), s)
		got, err := evid.Value(open, map[api.Need]int{{Row: 9, Label: s}: behind.N})
		if want, _ := evid.Value(whole, nil); got != want || err != nil {
			t.Fatal(head, rest, s, got, want, err)
		}
	}
}
