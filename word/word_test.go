package word_test

import (
	"bytes"
	"math"
	"slices"
	"testing"

	"bushel/api"
	"bushel/word"
)

// P1.1
func TestIntAndAt(t *testing.T) {
	for _, n := range []int64{0, 1, -1, math.MaxInt64, math.MinInt64} {
		if w := word.Int(n); w.Ptr || w.V != n {
			t.Error(n, w)
		}
	}
	for _, place := range []int{0, 7, -3, math.MaxInt} {
		w := word.At(place)
		if !w.Ptr || w.V != int64(place) {
			t.Error(place, w)
		}
		if to, is := word.Moved(w); to != place || !is {
			t.Error(place, to, is)
		}
	}
	if to, is := word.Moved(word.Int(9)); to != 0 || is {
		t.Error(to, is)
	}
}

// P1.1, P1.4
func TestHead(t *testing.T) {
	if w, err := word.Head(3, 2); err != nil || w != word.Int(35) {
		t.Error(w, err)
	}
	for kind := range 16 {
		for size := range api.MaxObject + 1 {
			w, err := word.Head(kind, size)
			if err != nil || w.Ptr || w.V != int64(16*size+kind) {
				t.Fatal(kind, size, w, err)
			}
			if k, n, is := word.Parts(w); k != kind || n != size || !is {
				t.Fatal(kind, size, k, n, is)
			}
		}
	}
	for _, bad := range [][2]int{{-1, 0}, {16, 0}, {0, -1}, {0, api.MaxObject + 1}, {math.MaxInt, math.MaxInt}, {math.MinInt, math.MinInt}} {
		if w, err := word.Head(bad[0], bad[1]); err != api.ErrArg || w != (word.Word{}) {
			t.Error(bad, w, err)
		}
	}
}

// P1.1
func TestPartsOfNoHead(t *testing.T) {
	for _, w := range []word.Word{word.At(35), word.Int(-1), word.Int(64016), word.Int(math.MinInt64), word.Int(math.MaxInt64)} {
		if k, n, is := word.Parts(w); k != 0 || n != 0 || is {
			t.Error(w, k, n, is)
		}
	}
	if k, n, is := word.Parts(word.Int(64015)); k != 15 || n != 4000 || !is {
		t.Error(k, n, is)
	}
}

// P1.2
func TestPack(t *testing.T) {
	got := word.Pack([]byte("abcdefgh\xff"))
	want := []word.Word{word.Int(9), word.Int(0x6867666564636261), word.Int(255)}
	if !slices.Equal(got, want) {
		t.Error(got)
	}
	if got := word.Pack(nil); !slices.Equal(got, []word.Word{word.Int(0)}) {
		t.Error(got)
	}
	if got := word.Pack(bytes.Repeat([]byte{255}, 8)); !slices.Equal(got, []word.Word{word.Int(8), word.Int(-1)}) {
		t.Error(got)
	}
}

// P1.2, P1.4
func TestPackedIsUnpacked(t *testing.T) {
	var b []byte
	for i := range 300 {
		l := word.Pack(b)
		if len(l) != 1+(i+7)/8 {
			t.Fatal(i, len(l))
		}
		if got, err := word.Unpack(l); err != nil || !bytes.Equal(got, b) {
			t.Fatal(i, got, err)
		}
		b = append(b, byte(i*37+200))
	}
}

// P1.2, P1
func TestUnpackRefuses(t *testing.T) {
	n, p := word.Int, word.At
	for _, l := range [][]word.Word{
		nil,
		{n(-1)},
		{n(1)},
		{n(0), n(0)},
		{n(8), n(1), n(0)},
		{n(9), n(1)},
		{n(3), n(1 << 24)},
		{n(7), n(-1)},
		{n(3), p(1)},
		{p(0)},
		{n(16), p(1), n(1)},
		{n(math.MaxInt64), n(1)},
		{n(math.MinInt64), n(1)},
	} {
		if b, err := word.Unpack(l); err != api.ErrArg || len(b) != 0 {
			t.Error(l, b, err)
		}
	}
}

// P1.3, R2
func TestNothingIsShared(t *testing.T) {
	b := []byte("0123456789")
	l := word.Pack(b)
	if string(b) != "0123456789" {
		t.Error(b)
	}
	b[0] = 'x'
	was := slices.Clone(l)
	got, _ := word.Unpack(l)
	got[1] = 'y'
	if again, _ := word.Unpack(l); string(again) != "0123456789" || !slices.Equal(l, was) {
		t.Error(again, l)
	}
	l[0] = word.Int(0)
	if string(got) != "0y23456789" {
		t.Error(got)
	}
}
