package tree_test

import (
	"math"
	"slices"
	"testing"

	"gemot/api"
	"gemot/tree"
)

// T2: a tree of members is the leaf of the first one, joined by the others.
func TestBuild(t *testing.T) {
	for _, c := range []struct {
		l    []int
		want tree.Tree
	}{
		{[]int{1}, "1"},
		{[]int{8}, "8"},
		{[]int{1, 2}, "(12)"},
		{[]int{2, 5, 8}, "((25)8)"},
		{[]int{1, 2, 3, 4}, "((12)(34))"},
		{[]int{1, 2, 3, 4, 5}, "(((12)(34))5)"},
		{[]int{3, 4, 5, 6, 7, 8}, "(((34)(56))(78))"},
		{[]int{1, 3, 4, 5, 6, 7, 8}, "(((13)(45))((67)8))"},
		{[]int{1, 2, 3, 4, 5, 6, 7, 8}, "(((12)(34))((56)(78)))"},
	} {
		if got, e := tree.Build(c.l); got != c.want || e != api.OK {
			t.Errorf("Build(%v): %q %d, want %q", c.l, got, e, c.want)
		}
	}
}

// T2: what is no row is not built.
func TestBuildWrong(t *testing.T) {
	rows := [][]int{nil, {}, {0}, {9}, {-1}, {1, 1}, {2, 1}, {1, 3, 2}, {0, 1}, {1, 9}, {1, 2, 3, 4, 5, 6, 7, 8, 9}, {1, 2, 3, 4, 5, 6, 7, 8, 8}, {'1'}, {1, '2'}, {257}, {1<<32 + 1}, {math.MinInt}, {1, math.MaxInt}, make([]int, 1<<20), slices.Repeat([]int{1, 2}, 1<<19)}
	for _, l := range rows {
		if got, e := tree.Build(l); got != "" || e != api.ErrArg {
			t.Errorf("Build(%.20v): %q %d", l, got, e)
		}
	}
}

// T2: of all short lists of few numbers, and of rows as they are and with something wrong, just the rows are built.
func TestBuildPlain(t *testing.T) {
	var grow func(l []int)
	grow = func(l []int) {
		checkBuild(t, l)
		if len(l) < 4 {
			for p := range 10 {
				grow(append(slices.Clone(l), p))
			}
		}
	}
	grow(nil)
	for _, l := range rows() {
		checkBuild(t, l)
		checkBuild(t, append(slices.Clone(l), 9))
		checkBuild(t, append([]int{0}, l...))
		checkBuild(t, append(slices.Clone(l), l...))
		slices.Reverse(l)
		checkBuild(t, l)
	}
}
