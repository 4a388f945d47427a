package spot_test

import (
	"errors"
	"math"
	"testing"

	"bushel/api"
	"bushel/spot"
)

// P3.1
func TestAt(t *testing.T) {
	err := spot.At(7, api.ErrParse)
	s, is := err.(*api.Spot)
	if !is || s.At != 7 || s.Err != api.ErrParse {
		t.Fatal(err)
	}
	if !errors.Is(err, api.ErrParse) || errors.Is(err, api.ErrLex) || err.Error() != "7: error 3" {
		t.Error(err)
	}
}

// P3.1
func TestWrap(t *testing.T) {
	if err := spot.Wrap("parse", nil); err != nil {
		t.Error(err)
	}
	inner := spot.At(4, api.ErrType)
	err := spot.Wrap("type", inner)
	if err.Error() != "type: 4: error 5" {
		t.Error(err)
	}
	var s *api.Spot
	var c api.Code
	if !errors.Is(err, inner) || !errors.Is(err, api.ErrType) || !errors.As(err, &s) || !errors.As(err, &c) {
		t.Error("what is wrapped isn't seen")
	}
	if s != inner || c != api.ErrType {
		t.Error(s, c)
	}
	if err := spot.Wrap("", errors.New("x")); err.Error() != ": x" {
		t.Error(err)
	}
}

// two wraps two errors, and panics, if it is told to.
type two struct {
	a, b error
	bad  bool
}

func (w two) Error() string {
	if w.bad {
		panic("no text")
	}
	return "two"
}

func (w two) Unwrap() []error {
	if w.bad {
		panic("no errors")
	}
	return []error{w.a, w.b}
}

// P3.1
func TestPlaceAndNumber(t *testing.T) {
	other := errors.New("other")
	for _, c := range []struct {
		err error
		at  int
		is  bool
		n   api.Code
	}{
		{nil, 0, false, 0},
		{other, 0, false, 0},
		{api.ErrFull, 0, false, api.ErrFull},
		{spot.At(3, api.ErrLex), 3, true, api.ErrLex},
		{spot.At(-5, 0), -5, true, 0},
		{spot.Wrap("a", api.ErrArg), 0, false, api.ErrArg},
		{two{other, spot.At(8, api.ErrScope), false}, 8, true, api.ErrScope},
		{two{spot.At(1, api.ErrLex), spot.At(2, api.ErrType), false}, 1, true, api.ErrLex},
		{two{api.ErrCode, spot.At(2, api.ErrType), false}, 2, true, api.ErrCode},
		{spot.Wrap("a", errors.Join(other, spot.Wrap("b", spot.At(6, api.ErrFuel)))), 6, true, api.ErrFuel},
	} {
		if at, is := spot.Place(c.err); at != c.at || is != c.is {
			t.Error(c.err, at, is)
		}
		if n := spot.Number(c.err); n != c.n {
			t.Error(c.err, n)
		}
	}
}

// P1: errors whose methods panic.
func TestNoPanic(t *testing.T) {
	var none *api.Spot
	var number *api.Code
	for _, err := range []error{none, number, two{bad: true}, spot.Wrap("x", none), spot.Wrap("x", two{bad: true})} {
		if at, is := spot.Place(err); at != 0 || is {
			t.Error(at, is)
		}
		if n := spot.Number(err); n != 0 {
			t.Error(n)
		}
		if text := spot.Render([]byte("a"), err); text != "" {
			t.Error(text)
		}
	}
}

// P3.2
func TestWhere(t *testing.T) {
	for _, c := range []struct {
		text            string
		at, line, colum int
	}{
		{"a\nb", 2, 2, 1},
		{"a\nb", 0, 1, 1},
		{"a\nb", 1, 1, 2},
		{"a\nb", 3, 2, 2},
		{"a\nb", 4, 2, 2},
		{"a\nb", math.MaxInt, 2, 2},
		{"a\nb", -1, 1, 1},
		{"a\nb", math.MinInt, 1, 1},
		{"", 5, 1, 1},
		{"\n\n", 2, 3, 1},
		{"\n\n", 1, 2, 1},
		{"ab\ncde\n\r", 6, 2, 4},
		{"ab\ncde\n\r", 8, 3, 2},
	} {
		if l, col := spot.Where([]byte(c.text), c.at); l != c.line || col != c.colum {
			t.Error(c, l, col)
		}
	}
	if l, c := spot.Where(nil, 3); l != 1 || c != 1 {
		t.Error(l, c)
	}
}

// P3.2
func TestRender(t *testing.T) {
	text := []byte("ab\ncd")
	for _, c := range []struct {
		err  error
		want string
	}{
		{nil, ""},
		{errors.New("plain"), "plain"},
		{spot.Wrap("run", api.ErrFull), "run: error 7"},
		{spot.At(4, api.ErrLex), "2:2: 4: error 2"},
		{spot.Wrap("parse", spot.At(4, api.ErrLex)), "2:2: parse: 4: error 2"},
		{spot.At(-4, api.ErrLex), "1:1: -4: error 2"},
		{spot.At(99, api.ErrLex), "2:3: 99: error 2"},
	} {
		if got := spot.Render(text, c.err); got != c.want {
			t.Errorf("%q, not %q", got, c.want)
		}
	}
	if string(text) != "ab\ncd" {
		t.Error("the text was changed")
	}
}

// P3.3
func TestWrappedOften(t *testing.T) {
	err := spot.At(12, api.ErrLimit)
	for range 1000 {
		err = spot.Wrap("again", err)
		if at, is := spot.Place(err); at != 12 || !is || spot.Number(err) != api.ErrLimit {
			t.Fatal(at, is, spot.Number(err))
		}
	}
}
