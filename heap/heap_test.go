package heap_test

import (
	"math"
	"math/rand"
	"slices"
	"testing"

	"bushel/api"
	"bushel/heap"
	"bushel/word"
)

var (
	num = word.Int
	at  = word.At
)

func fresh(t *testing.T, half int) *heap.Heap {
	t.Helper()
	h, err := heap.New(half)
	if err != nil {
		t.Fatal(err)
	}
	return h
}

func put(t *testing.T, h *heap.Heap, kind int, l ...word.Word) int {
	t.Helper()
	place, _, _, err := h.Make(kind, l, nil)
	if err != nil {
		t.Fatal(err)
	}
	return place
}

// P2.1
func TestNew(t *testing.T) {
	for _, half := range []int{0, -1, api.MaxWords + 1, math.MaxInt, math.MinInt} {
		if h, err := heap.New(half); err != api.ErrArg || h != nil {
			t.Error(half, h, err)
		}
	}
	for _, half := range []int{1, 100, api.MaxWords} {
		h := fresh(t, half)
		if h.Used() != 0 || h.Runs() != 0 {
			t.Error(half, h.Used(), h.Runs())
		}
	}
}

// P2.2, P2.3
func TestObjectsStandInARow(t *testing.T) {
	h := fresh(t, 8)
	a := put(t, h, 3, num(5), num(6))
	b := put(t, h, 15, at(a))
	c := put(t, h, 0)
	if a != 0 || b != 3 || c != 5 || h.Used() != 6 || h.Runs() != 0 {
		t.Error(a, b, c, h.Used(), h.Runs())
	}
	if k, l, err := h.Object(a); k != 3 || !slices.Equal(l, []word.Word{num(5), num(6)}) || err != nil {
		t.Error(k, l, err)
	}
	if k, l, err := h.Object(c); k != 0 || len(l) != 0 || err != nil {
		t.Error(k, l, err)
	}
	if w, err := h.Get(b, 0); w != at(a) || err != nil {
		t.Error(w, err)
	}
	if err := h.Set(a, 1, at(b)); err != nil {
		t.Error(err)
	}
	if w, err := h.Get(a, 1); w != at(b) || err != nil {
		t.Error(w, err)
	}
	if w, err := h.Get(a, 0); w != num(5) || err != nil {
		t.Error(w, err)
	}
}

// P2.2: what may not be is refused, and nothing happens.
func TestMakeRefuses(t *testing.T) {
	h := fresh(t, 10)
	a := put(t, h, 1, num(35), num(0))
	long := make([]word.Word, api.MaxObject+1)
	for _, c := range []struct {
		kind     int
		l, roots []word.Word
	}{
		{-1, nil, nil},
		{16, nil, nil},
		{0, long, nil},
		{0, []word.Word{at(1)}, nil},
		{0, []word.Word{at(3)}, nil},
		{0, []word.Word{at(-1)}, nil},
		{0, nil, []word.Word{num(1), at(2)}},
		{0, long[:20], []word.Word{at(math.MaxInt)}},
	} {
		place, l, roots, err := h.Make(c.kind, c.l, c.roots)
		if place != 0 || l != nil || roots != nil || err != api.ErrArg {
			t.Error(c.kind, place, l, roots, err)
		}
	}
	if h.Used() != 3 || h.Runs() != 0 {
		t.Error(h.Used(), h.Runs())
	}
	if k, _, err := h.Object(a); k != 1 || err != nil {
		t.Error(k, err)
	}
}

// P2.2: an object of as many words as may be.
func TestMakeGreatest(t *testing.T) {
	h := fresh(t, api.MaxObject+1)
	if p := put(t, h, 2, make([]word.Word, api.MaxObject)...); p != 0 || h.Used() != api.MaxObject+1 {
		t.Error(p, h.Used())
	}
}

// P2.2: roots come ahead of the new words, when it is collected.
func TestMakeCollects(t *testing.T) {
	h := fresh(t, 8)
	gone := put(t, h, 1, num(1), num(2))
	a := put(t, h, 2, num(3))
	b := put(t, h, 3, num(4))
	_ = gone
	l, roots := []word.Word{at(a), num(9)}, []word.Word{at(b), num(7)}
	place, l2, roots2, err := h.Make(4, l, roots)
	if err != nil || place != 4 || h.Runs() != 1 || h.Used() != 7 {
		t.Fatal(place, h.Runs(), h.Used(), err)
	}
	if !slices.Equal(roots2, []word.Word{at(0), num(7)}) || !slices.Equal(l2, []word.Word{at(2), num(9)}) {
		t.Error(l2, roots2)
	}
	if !slices.Equal(l, []word.Word{at(a), num(9)}) || !slices.Equal(roots, []word.Word{at(b), num(7)}) {
		t.Error("what was handed in was changed")
	}
	if k, w, err := h.Object(place); k != 4 || !slices.Equal(w, l2) || err != nil {
		t.Error(k, w, err)
	}
	if k, w, _ := h.Object(0); k != 3 || w[0] != num(4) {
		t.Error(k, w)
	}
}

// P2.2: there isn't room, collected or not: both lists are told, as they point then.
func TestMakeFull(t *testing.T) {
	h := fresh(t, 6)
	put(t, h, 1, num(1))
	b := put(t, h, 2, num(2), num(3))
	place, l, roots, err := h.Make(3, []word.Word{at(b), num(1), num(2)}, []word.Word{num(8), at(b)})
	if place != 0 || err != api.ErrFull || h.Runs() != 1 || h.Used() != 3 {
		t.Fatal(place, err, h.Runs(), h.Used())
	}
	if !slices.Equal(l, []word.Word{at(0), num(1), num(2)}) || !slices.Equal(roots, []word.Word{num(8), at(0)}) {
		t.Error(l, roots)
	}
	if _, _, _, err := h.Make(3, make([]word.Word, 6), nil); err != api.ErrFull || h.Runs() != 2 || h.Used() != 0 {
		t.Error(err, h.Runs(), h.Used())
	}
	if _, _, _, err := h.Make(3, make([]word.Word, 5), nil); err != nil || h.Runs() != 2 || h.Used() != 6 {
		t.Error(err, h.Runs(), h.Used())
	}
}

// P2.3
func TestGetAndSetRefuse(t *testing.T) {
	h := fresh(t, 20)
	put(t, h, 1, num(16), num(17))
	b := put(t, h, 2, num(1))
	for _, c := range [][2]int{{1, 0}, {2, 0}, {-1, 0}, {5, 0}, {20, 0}, {math.MaxInt, 0}, {math.MinInt, 0}, {b, 1}, {b, -1}, {0, 2}, {0, math.MaxInt}, {0, math.MinInt}} {
		if w, err := h.Get(c[0], c[1]); err != api.ErrArg || w != (word.Word{}) {
			t.Error(c, w, err)
		}
		if err := h.Set(c[0], c[1], num(1)); err != api.ErrArg {
			t.Error(c, err)
		}
	}
	if err := h.Set(b, 0, at(1)); err != api.ErrArg {
		t.Error(err)
	}
	if w, _ := h.Get(b, 0); w != num(1) {
		t.Error(w)
	}
	for _, place := range []int{1, -1, 5, math.MaxInt, math.MinInt} {
		if k, l, err := h.Object(place); k != 0 || l != nil || err != api.ErrArg {
			t.Error(place, k, l, err)
		}
	}
	if l, err := h.Collect([]word.Word{num(1), at(1)}); l != nil || err != api.ErrArg || h.Runs() != 0 || h.Used() != 5 {
		t.Error(l, err, h.Runs(), h.Used())
	}
}

// P2.3: first those of the roots, in order; then, object by object, those that its words point to.
func TestCollectOrder(t *testing.T) {
	h := fresh(t, 100)
	leaf := put(t, h, 1, num(11))
	deep := put(t, h, 2, at(leaf), num(22))
	put(t, h, 9, num(99))
	left := put(t, h, 3, at(deep), at(leaf))
	right := put(t, h, 4, at(left), num(44), at(deep))
	if err := h.Set(leaf, 0, at(right)); err != nil {
		t.Fatal(err)
	}
	roots, err := h.Collect([]word.Word{at(right), num(5), at(leaf), at(right)})
	if err != nil || !slices.Equal(roots, []word.Word{at(0), num(5), at(4), at(0)}) {
		t.Fatal(roots, err)
	}
	if h.Used() != 12 || h.Runs() != 1 {
		t.Error(h.Used(), h.Runs())
	}
	for _, c := range []struct {
		place, kind int
		l           []word.Word
	}{
		{0, 4, []word.Word{at(6), num(44), at(9)}},
		{4, 1, []word.Word{at(0)}},
		{6, 3, []word.Word{at(9), at(4)}},
		{9, 2, []word.Word{at(4), num(22)}},
	} {
		if k, l, err := h.Object(c.place); k != c.kind || !slices.Equal(l, c.l) || err != nil {
			t.Error(c.place, k, l, err)
		}
	}
	if again, err := h.Collect(nil); len(again) != 0 || err != nil || h.Used() != 0 || h.Runs() != 2 {
		t.Error(again, err, h.Used(), h.Runs())
	}
}

// P2.4, R2
func TestNothingIsShared(t *testing.T) {
	h := fresh(t, 100)
	l, roots := []word.Word{num(1), num(2)}, []word.Word{num(3)}
	a, l2, roots2, _ := h.Make(1, l, roots)
	l[0], l2[1], roots2[0] = num(7), num(8), num(9)
	if l[1] != num(2) || roots[0] != num(3) {
		t.Error(l, roots)
	}
	_, got, _ := h.Object(a)
	if !slices.Equal(got, []word.Word{num(1), num(2)}) {
		t.Error(got)
	}
	got[0] = num(100)
	if w, _ := h.Get(a, 0); w != num(1) {
		t.Error(w)
	}
	mine := []word.Word{at(a)}
	put(t, h, 2)
	told, _ := h.Collect(mine)
	told[0] = num(0)
	if mine[0] != at(a) {
		t.Error(mine)
	}
}

// node is what an object of the heap should be, told without places.
type node struct {
	kind int
	nums []int64
	to   []*node // nil: the number counts
}

// P2.5: random graphs, random roots: what is reached stays, what isn't is gone.
func TestWhatIsReachedStays(t *testing.T) {
	r := rand.New(rand.NewSource(1))
	for range 200 {
		half := 20 + r.Intn(200)
		h := fresh(t, half)
		var roots []word.Word
		var mine []*node
		for range 100 {
			step(t, r, h, half, &roots, &mine)
			seen := map[*node]int{}
			for i := range mine {
				same(t, h, roots[i], mine[i], seen)
			}
		}
		var err error
		if roots, err = h.Collect(roots); err != nil {
			t.Fatal(err)
		}
		seen, used := map[*node]int{}, 0
		for i := range mine {
			same(t, h, roots[i], mine[i], seen)
		}
		for n := range seen {
			used += 1 + len(n.to)
		}
		if used != h.Used() {
			t.Fatal(used, h.Used())
		}
	}
}

// step makes an object, drops a root, or sets a word, in the heap and beside it.
func step(t *testing.T, r *rand.Rand, h *heap.Heap, half int, roots *[]word.Word, mine *[]*node) {
	t.Helper()
	some := len(*mine)
	switch {
	case some > 0 && r.Intn(3) == 0:
		i := r.Intn(some)
		*roots = slices.Delete(*roots, i, i+1)
		*mine = slices.Delete(*mine, i, i+1)
	case some > 0 && r.Intn(3) == 0:
		i, j := r.Intn(some), r.Intn(some)
		if n := (*mine)[i]; len(n.to) > 0 {
			k := r.Intn(len(n.to))
			place, _ := word.Moved((*roots)[i])
			if err := h.Set(place, k, (*roots)[j]); err != nil {
				t.Fatal(err)
			}
			n.to[k] = (*mine)[j]
		}
	default:
		n := &node{kind: r.Intn(16)}
		var l []word.Word
		for range r.Intn(6) {
			w, to, v := word.Int(r.Int63()), (*node)(nil), int64(0)
			if some > 0 && r.Intn(2) == 0 {
				j := r.Intn(some)
				w, to = (*roots)[j], (*mine)[j]
			} else {
				v = int64(r.Intn(1000))
				w = word.Int(v)
			}
			l, n.to, n.nums = append(l, w), append(n.to, to), append(n.nums, v)
		}
		runs := h.Runs()
		place, _, now, err := h.Make(n.kind, l, *roots)
		*roots = now
		if err == api.ErrFull {
			if place != 0 || h.Runs() != runs+1 || h.Used()+1+len(l) <= half {
				t.Fatal("full, with room")
			}
			return
		}
		if err != nil || h.Used() > half {
			t.Fatal(err, h.Used())
		}
		*roots, *mine = append(*roots, word.At(place)), append(*mine, n)
	}
}

// same holds an object against what it should be, and all that it reaches; each stands at one place.
func same(t *testing.T, h *heap.Heap, w word.Word, n *node, seen map[*node]int) {
	t.Helper()
	place, is := word.Moved(w)
	if !is {
		t.Fatal(w)
	}
	if was, done := seen[n]; done {
		if was != place {
			t.Fatal("one object at two places", was, place)
		}
		return
	}
	seen[n] = place
	kind, l, err := h.Object(place)
	if err != nil || kind != n.kind || len(l) != len(n.to) {
		t.Fatal(kind, l, err)
	}
	for i, to := range n.to {
		if to == nil {
			if l[i] != word.Int(n.nums[i]) {
				t.Fatal(l[i], n.nums[i])
			}
			continue
		}
		same(t, h, l[i], to, seen)
	}
}
