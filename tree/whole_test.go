package tree_test

import (
	"slices"
	"testing"

	"gemot/api"
	"gemot/tree"
)

// P3 of the whole: members that are handed in stay as they were, with what lies behind them, and a tree does not change with them.
func TestHandedIn(t *testing.T) {
	l := []int{1, 2, 4, 7, 8, 3}
	x, e := tree.Build(l[:4])
	if x != "((12)(47))" || e != api.OK || !slices.Equal(l, []int{1, 2, 4, 7, 8, 3}) {
		t.Fatal(x, e, l)
	}
	l[0] = 5
	if !slices.Equal(tree.Members(x), []int{1, 2, 4, 7}) {
		t.Error(x, tree.Members(x))
	}
	if y, e := tree.Build([]int{2, 1, 4}[:1]); y != "2" || e != api.OK {
		t.Error(y, e)
	}
}

// P3 and P4 of the whole: the same is answered the same, and members are told anew each time, however the ones told before were written into.
func TestAnsweredAnew(t *testing.T) {
	const x tree.Tree = "((83)(57))"
	for range 3 {
		l := tree.Members(x)
		if !slices.Equal(l, []int{3, 5, 7, 8}) {
			t.Fatal(l)
		}
		clear(l[:cap(l)])
		if y, e := tree.Join(x, 1); y != "(((83)(57))1)" || e != api.OK {
			t.Fatal(y, e)
		}
		if y, e := tree.Leave(x, 8); y != "(3(57))" || e != api.OK {
			t.Fatal(y, e)
		}
		if y, e := tree.Merge("1", x); y != "(((83)(57))1)" || e != api.OK {
			t.Fatal(y, e)
		}
	}
}
