package view_test

import (
	"math"
	"testing"

	"gemot/api"
	"gemot/view"
)

// V1: by Epoch, and by Coord only where that is the same.
func TestLess(t *testing.T) {
	for i, c := range []struct {
		a, b api.Id
		want bool
	}{
		{id(1, 2), id(2, 1), true},
		{id(2, 1), id(1, 2), false},
		{id(1, 2), id(2, 2), true},
		{id(2, 2), id(1, 2), false},
		{id(1, 1), id(1, 2), true},
		{id(1, 2), id(1, 1), false},
		{id(1, 1), id(1, 1), false},
		{id(0, 0), id(0, 0), false},
		{id(-1, 8), id(0, 0), true},
		{id(1, 8), id(1<<32, 1), true},
		{id(5, 1), id(5, 1<<32), true},
		{id(5, -1), id(5, 1), true},
		{id(math.MinInt, 1), id(math.MaxInt, 1), true},
		{id(math.MaxInt, 1), id(math.MinInt, 1), false},
		{id(3, math.MinInt), id(3, math.MaxInt), true},
	} {
		if view.Less(c.a, c.b) != c.want {
			t.Error(i, c)
		}
	}
}

// ids are those of all edges.
func ids() []api.Id {
	var all []api.Id
	for _, epoch := range edges() {
		for _, coord := range edges() {
			all = append(all, id(epoch, coord))
		}
	}
	return all
}

// V3: of two ids just one holds: the one is less, the other is, or they are one.
func TestOneIsLess(t *testing.T) {
	for _, a := range ids() {
		for _, b := range ids() {
			holds := 0
			for _, is := range []bool{view.Less(a, b), view.Less(b, a), a == b} {
				if is {
					holds++
				}
			}
			if holds != 1 {
				t.Fatal(a, b, holds)
			}
		}
	}
}

// V1: what is below a lesser one is below a greater one.
func TestLessGoesOn(t *testing.T) {
	few := []api.Id{id(0, 0), id(0, 9), id(1, 0), id(1, 1), id(1, 8), id(2, 0), id(2, 8), id(1<<31-1, 1), id(-1, 8), id(math.MaxInt, 0), id(math.MinInt, 8)}
	for _, a := range few {
		for _, b := range few {
			for _, c := range few {
				if view.Less(a, b) && view.Less(b, c) && !view.Less(a, c) {
					t.Fatal(a, b, c)
				}
			}
		}
	}
}

// V1: the Epoch one more, and me, whoever made what was seen, and whatever me is.
func TestNext(t *testing.T) {
	for _, seen := range ids() {
		for _, me := range edges() {
			if got := view.Next(seen, me); got.Epoch-1 != seen.Epoch || got.Coord != me {
				t.Fatal(seen, me, got)
			}
		}
	}
	if got := view.Next(id(4, 7), 2); got != id(5, 2) {
		t.Error(got)
	}
	// P6 of the whole: an int goes round.
	if got := view.Next(id(math.MaxInt, 7), 2); got != id(math.MinInt, 2) {
		t.Error(got)
	}
}

// V3: a next id is above what was seen, where the Epoch does not go round.
func TestNextIsAbove(t *testing.T) {
	for _, seen := range ids() {
		for _, me := range edges() {
			next := view.Next(seen, me)
			if seen.Epoch < math.MaxInt && (!view.Less(seen, next) || view.Less(next, seen)) {
				t.Fatal(seen, me, next)
			}
		}
	}
}
