package tree_test

import (
	"math/rand"
	"testing"

	"gemot/api"
	"gemot/tree"
)

// T2: what stood beside one that leaves stands in the place of both.
func TestLeave(t *testing.T) {
	for _, c := range []struct {
		t    tree.Tree
		p    int
		want tree.Tree
	}{
		{"(12)", 1, "2"},
		{"(12)", 2, "1"},
		{"((12)3)", 3, "(12)"},
		{"(3(12))", 3, "(12)"},
		{"((12)3)", 1, "(23)"},
		{"((12)3)", 2, "(13)"},
		{"((12)(34))", 3, "((12)4)"},
		{"(((12)(34))5)", 5, "((12)(34))"},
		{"(((12)(34))5)", 1, "((2(34))5)"},
		{"((56)((12)8))", 8, "((56)(12))"},
		{"(1(2(3(4(5(6(78)))))))", 1, "(2(3(4(5(6(78))))))"},
		{"(1(2(3(4(5(6(78)))))))", 8, "(1(2(3(4(5(67))))))"},
		{"(1(2(3(4(5(6(78)))))))", 4, "(1(2(3(5(6(78))))))"},
	} {
		if got, e := tree.Leave(c.t, c.p); got != c.want || e != api.OK {
			t.Errorf("Leave(%s, %d): %q %d, want %q", short(c.t), c.p, got, e, c.want)
		}
	}
}

// T2: of what is no tree that is told first; one that is not in it, be it no process, or is alone in it, does not leave.
func TestLeaveWrong(t *testing.T) {
	for _, w := range wrongs() {
		for _, p := range edges() {
			if got, e := tree.Leave(w, p); got != "" || e != api.ErrArg {
				t.Fatalf("Leave(%s, %d): %q %d", short(w), p, got, e)
			}
		}
	}
	for _, x := range []tree.Tree{"1", "8", "(34)", "((34)(56))", "(((43)5)6)"} {
		for _, p := range edges() {
			if got, e := tree.Leave(x, p); got != "" || e != api.ErrNone {
				t.Errorf("Leave(%s, %d): %q %d", short(x), p, got, e)
			}
		}
	}
}

// T2: all trees of few processes, and some of many, against a plain second reading.
func TestLeavePlain(t *testing.T) {
	for _, x := range few() {
		for _, p := range []int{2, 5, 8} {
			checkLeave(t, x, p)
		}
	}
	r := rand.New(rand.NewSource(132))
	for range 1000 {
		checkLeave(t, some(r, 1+r.Intn(8)), r.Intn(10))
	}
}
