package tree_test

import (
	"math/rand"
	"slices"
	"strconv"
	"testing"

	"gemot/api"
	"gemot/tree"
)

// T1: a leaf is the digit of a process, 1 to 8.
func TestLeaf(t *testing.T) {
	for _, p := range append(edges(), 3, 4, 5, 6) {
		want, wantErr := tree.Tree(""), api.ErrArg
		if p >= 1 && p <= 8 {
			want, wantErr = tree.Tree(strconv.Itoa(p)), api.OK
		}
		if got, e := tree.Leaf(p); got != want || e != wantErr {
			t.Errorf("Leaf(%d): %q %d", p, got, e)
		}
	}
}

// T1: a tree's processes are told in order, the lesser ones first, however they stand in it; its depth is that of its lowest leaf.
func TestTold(t *testing.T) {
	for _, c := range []struct {
		t       tree.Tree
		members []int
		depth   int
	}{
		{"1", []int{1}, 0},
		{"8", []int{8}, 0},
		{"(12)", []int{1, 2}, 1},
		{"(21)", []int{1, 2}, 1},
		{"((12)3)", []int{1, 2, 3}, 2},
		{"(3(12))", []int{1, 2, 3}, 2},
		{"((83)(57))", []int{3, 5, 7, 8}, 2},
		{"(((12)(34))5)", []int{1, 2, 3, 4, 5}, 3},
		{"(5(4(3(2(16)))))", []int{1, 2, 3, 4, 5, 6}, 5},
		{"(((12)(34))((56)(78)))", []int{1, 2, 3, 4, 5, 6, 7, 8}, 3},
		{"(((((((87)6)5)4)3)2)1)", []int{1, 2, 3, 4, 5, 6, 7, 8}, 7},
		{"(1(2(3(4(5(6(78)))))))", []int{1, 2, 3, 4, 5, 6, 7, 8}, 7},
	} {
		if !tree.Right(c.t) || !slices.Equal(tree.Members(c.t), c.members) || tree.Depth(c.t) != c.depth {
			t.Errorf("%s: %v %v %d", short(c.t), tree.Right(c.t), tree.Members(c.t), tree.Depth(c.t))
		}
	}
}

// T1: what is no tree has no processes, and the depth -1.
func TestWrong(t *testing.T) {
	for _, w := range wrongs() {
		if tree.Right(w) || len(tree.Members(w)) != 0 || tree.Depth(w) != -1 {
			t.Errorf("%s: %v %v %d", short(w), tree.Right(w), tree.Members(w), tree.Depth(w))
		}
	}
}

// T1: all short texts of brackets and digits.
func TestShortTexts(t *testing.T) {
	right := 0
	var grow func(s string)
	grow = func(s string) {
		checkText(t, tree.Tree(s))
		if plainRight(tree.Tree(s)) {
			right++
		}
		if len(s) < 7 {
			for _, c := range "()1238" {
				grow(s + string(c))
			}
		}
	}
	grow("")
	if right != 4+4*3+4*3*2*2 {
		t.Error("right ones", right)
	}
}

// T1: all trees of few processes, and some of many, and each with one byte that lacks, is there twice, or is another one.
func TestOneByteOff(t *testing.T) {
	all := few()
	for _, x := range all {
		checkText(t, x)
	}
	r := rand.New(rand.NewSource(13))
	for range 300 {
		x := some(r, 1+r.Intn(8))
		checkText(t, x)
		for i := range len(x) {
			checkText(t, x[:i])
			checkText(t, x[i:])
			checkText(t, x[:i]+x[i+1:])
			for _, c := range []tree.Tree{"(", ")", "0", "1", "4", "8", "9", "\x00"} {
				checkText(t, x[:i]+c+x[i:])
				checkText(t, x[:i]+c+x[i+1:])
			}
		}
	}
}
