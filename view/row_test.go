package view_test

import (
	"math"
	"math/rand"
	"slices"
	"testing"

	"gemot/view"
)

// V1: the edges: one, and all; nobody; 0 and 9; alike ones; ones that fall.
func TestRow(t *testing.T) {
	for i, c := range []struct {
		l    []int
		want bool
	}{
		{[]int{1}, true},
		{[]int{8}, true},
		{[]int{1, 2, 8}, true},
		{[]int{1, 2, 3, 4, 5, 6, 7, 8}, true},
		{nil, false},
		{[]int{}, false},
		{[]int{0}, false},
		{[]int{0, 1}, false},
		{[]int{-1, 1}, false},
		{[]int{9}, false},
		{[]int{1, 9}, false},
		{[]int{1, 2, 3, 4, 5, 6, 7, 8, 9}, false},
		{[]int{2, 2}, false},
		{[]int{1, 2, 2}, false},
		{[]int{3, 2}, false},
		{[]int{1, 3, 2}, false},
		{[]int{1, 8, 1}, false},
		{[]int{1, math.MaxInt}, false},
		{[]int{math.MinInt, 1}, false},
		{[]int{256 + 1}, false},
		{[]int{1<<32 + 1}, false},
	} {
		if view.Row(c.l) != c.want {
			t.Error(i, c.l)
		}
	}
}

// V1: all rows that are, and no other one of all short lists.
func TestRowOfAll(t *testing.T) {
	for _, l := range rows() {
		if !view.Row(l) {
			t.Fatal(l)
		}
		if turned := slices.Clone(l); len(turned) > 1 {
			slices.Reverse(turned)
			if view.Row(turned) {
				t.Fatal(turned)
			}
		}
	}
	lists([]int{0, 1, 2, 3, 7, 8, 9, -1, 1 << 32}, 4, func(l []int) {
		if view.Row(l) != plainRow(l) {
			t.Fatal(l)
		}
	})
}

// V2: of each row, each process and each edge.
func TestHas(t *testing.T) {
	for _, l := range rows() {
		for _, p := range append(edges(), 3, 4, 5, 6) {
			if view.Has(l, p) != plainHas(l, p) {
				t.Fatal(l, p)
			}
		}
	}
}

// V2: lists that are no rows: nothing, what is turned, what comes twice, and what is no process.
func TestHasOfAnyList(t *testing.T) {
	for _, p := range edges() {
		if view.Has(nil, p) || view.Has([]int{}, p) {
			t.Error(p)
		}
		if !view.Has([]int{p}, p) || !view.Has([]int{9, p, 3, p}, p) || !view.Has(edges(), p) {
			t.Error(p)
		}
	}
	lists([]int{3, 1, 8, -1, 0}, 4, func(l []int) {
		for p := -2; p <= 9; p++ {
			if view.Has(l, p) != plainHas(l, p) {
				t.Fatal(l, p)
			}
		}
	})
}

// V2: in order, and as often; a list of nothing may be nil or empty.
func TestSame(t *testing.T) {
	for i, c := range []struct {
		a, b []int
		want bool
	}{
		{[]int{1, 2, 4}, []int{1, 2, 4}, true},
		{[]int{1, 2, 4}, []int{1, 2}, false},
		{[]int{1, 2}, []int{1, 2, 4}, false},
		{[]int{1, 2, 4}, []int{1, 2, 5}, false},
		{[]int{1, 2, 4}, []int{0, 2, 4}, false},
		{[]int{1, 2, 4}, []int{1, 4, 2}, false},
		{[]int{1, 1, 2}, []int{1, 2, 2}, false},
		{[]int{1, 1}, []int{1}, false},
		{nil, []int{}, true},
		{nil, nil, true},
		{nil, []int{1}, false},
		{[]int{0}, nil, false},
		{[]int{9, -1, math.MaxInt}, []int{9, -1, math.MaxInt}, true},
		{[]int{1}, []int{1<<32 + 1}, false},
	} {
		if view.Same(c.a, c.b) != c.want || view.Same(c.b, c.a) != c.want {
			t.Error(i, c)
		}
	}
}

// V2: the chapter's example.
func TestExample(t *testing.T) {
	a, b := []int{1, 2, 4}, []int{2, 3, 4}
	if got := view.Both(a, b); !plainSame(got, []int{2, 4}) {
		t.Error(got)
	}
	if got := view.Without(a, b); !plainSame(got, []int{1}) {
		t.Error(got)
	}
}

// V2: each row with each row.
func TestTwoRows(t *testing.T) {
	for _, a := range rows() {
		for _, b := range rows() {
			checkTwo(t, a, b)
		}
		checkTwo(t, a, nil)
		checkTwo(t, nil, a)
		checkTwo(t, []int{}, a)
	}
	checkTwo(t, nil, nil)
	checkTwo(t, nil, []int{})
}

// V2: lists that are no rows: those of the first one stay in its order, and as often as they are there.
func TestTwoLists(t *testing.T) {
	var all [][]int
	lists([]int{5, 2, 9, -1}, 4, func(l []int) { all = append(all, l) })
	for _, a := range all {
		for _, b := range all {
			checkTwo(t, a, b)
		}
	}
}

// V2: longer lists of any numbers, by chance that is the same each time.
func TestTwoByChance(t *testing.T) {
	r := rand.New(rand.NewSource(10))
	far := edges()
	some := func() []int {
		l := make([]int, r.Intn(40))
		for i := range l {
			if l[i] = r.Intn(30) - 5; r.Intn(4) == 0 {
				l[i] = far[r.Intn(len(far))]
			}
		}
		return l
	}
	for range 5000 {
		a, b := some(), some()
		checkTwo(t, a, b)
		checkTwo(t, a, slices.Clone(a))
		if view.Row(a) != plainRow(a) {
			t.Fatal(a)
		}
		for _, p := range b {
			if view.Has(a, p) != plainHas(a, p) {
				t.Fatal(a, p)
			}
		}
	}
}
