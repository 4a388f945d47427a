package label_test

import (
	"slices"
	"testing"

	"bushel/label"
	"bushel/samples"
)

// P9.1
func TestIs(t *testing.T) {
	for _, l := range [][]string{nil, {}, {""}, {"a"}, {"", "a"}, {"B", "a", "a0", "aa", "b"}, {"a\xff", "b"}} {
		if !label.Is(l) {
			t.Error(l)
		}
	}
	for _, l := range [][]string{{"a", "a"}, {"", ""}, {"b", "a"}, {"a", "c", "b"}, {"a", "B"}, {"a", "b", "b"}, {"b", "b\xff", "b"}} {
		if label.Is(l) {
			t.Error(l)
		}
	}
}

// P9.1
func TestOf(t *testing.T) {
	for _, c := range [][2][]string{
		{nil, nil},
		{{"a"}, {"a"}},
		{{"b", "a", "b", "", "B"}, {"", "B", "a", "b"}},
		{{"c", "c", "c"}, {"c"}},
	} {
		if got := label.Of(c[0]); !slices.Equal(got, c[1]) {
			t.Error(c, got)
		}
	}
}

// P9.1
func TestHasAndOffset(t *testing.T) {
	l := []string{"a", "b", "d"}
	for _, c := range []struct {
		s   string
		has bool
		at  int
	}{{"c", false, 2}, {"a", true, 0}, {"b", true, 1}, {"d", true, 2}, {"", false, 0}, {"e", false, 3}, {"aa", false, 1}} {
		if label.Has(l, c.s) != c.has || label.Offset(l, c.s) != c.at {
			t.Error(c, label.Has(l, c.s), label.Offset(l, c.s))
		}
	}
	if label.Has(nil, "a") || label.Offset(nil, "a") != 0 {
		t.Error("of none")
	}
}

// P9.1
func TestJoinLessMeet(t *testing.T) {
	abc, bd := []string{"a", "b", "c"}, []string{"b", "d"}
	for i, c := range [][2][]string{
		{label.Join(abc, bd), {"a", "b", "c", "d"}},
		{label.Join(bd, abc), {"a", "b", "c", "d"}},
		{label.Join(nil, bd), bd},
		{label.Join(bd, nil), bd},
		{label.Less(abc, bd), {"a", "c"}},
		{label.Less(bd, abc), {"d"}},
		{label.Less(abc, nil), abc},
		{label.Less(nil, abc), nil},
		{label.Less(abc, abc), nil},
		{label.Meet(abc, bd), {"b"}},
		{label.Meet(abc, abc), abc},
		{label.Meet(abc, nil), nil},
	} {
		if !slices.Equal(c[0], c[1]) {
			t.Error(i, c)
		}
	}
}

// P9.1, P9.3: random sets, held against lists.
func TestAgainstLists(t *testing.T) {
	r := samples.New(2)
	some := func() []string {
		var l []string
		for range r.Below(8) {
			l = append(l, samples.Pick(r, "", "a", "b", "c", "A", "ab", "b1"))
		}
		return l
	}
	for range 3000 {
		x, y := some(), some()
		a, b := label.Of(x), label.Of(y)
		join, less, meet := label.Join(a, b), label.Less(a, b), label.Meet(a, b)
		if !label.Is(a) || !label.Is(join) || !label.Is(less) || !label.Is(meet) {
			t.Fatal("no set", x, y)
		}
		for _, s := range []string{"", "a", "b", "c", "A", "ab", "b1", "z"} {
			in, also := slices.Contains(x, s), slices.Contains(y, s)
			if label.Has(a, s) != in || label.Has(join, s) != (in || also) || label.Has(less, s) != (in && !also) || label.Has(meet, s) != (in && also) {
				t.Fatal(x, y, s)
			}
			at := label.Offset(a, s)
			if in && a[at] != s || !in && !label.Is(slices.Insert(slices.Clone(a), at, s)) {
				t.Fatal(a, s, at)
			}
		}
	}
}

// P1: lists that are no sets.
func TestNoSets(t *testing.T) {
	l := []string{"b", "a", "b"}
	label.Has(l, "a")
	label.Offset(l, "a")
	label.Join(l, l)
	label.Less(l, l)
	label.Meet(l, l)
}

// P9.2
func TestNothingIsShared(t *testing.T) {
	a, b := []string{"a", "b"}, []string{"b", "c"}
	unsorted := []string{"b", "a", "b"}
	for i, l := range [][]string{label.Of(a), label.Join(a, nil), label.Join(nil, a), label.Less(a, nil), label.Meet(a, a), label.Join(a, b), label.Of(unsorted)} {
		l[0] = "changed"
		if !slices.Equal(a, []string{"a", "b"}) || !slices.Equal(b, []string{"b", "c"}) || !slices.Equal(unsorted, []string{"b", "a", "b"}) {
			t.Error(i, a, b, unsorted)
		}
	}
}
