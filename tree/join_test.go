package tree_test

import (
	"math/rand"
	"testing"

	"gemot/api"
	"gemot/tree"
)

// T2: one that joins stands beside the full tree of the least depth that is in no other full one, the rightmost one of those alike.
func TestJoin(t *testing.T) {
	for _, c := range []struct {
		t    tree.Tree
		p    int
		want tree.Tree
	}{
		{"1", 2, "(12)"},
		{"8", 1, "(81)"},
		{"(12)", 3, "((12)3)"},
		{"((12)3)", 4, "((12)(34))"},
		{"(3(12))", 4, "((34)(12))"},
		{"((12)(34))", 5, "(((12)(34))5)"},
		{"((43)(21))", 8, "(((43)(21))8)"},
		{"(((12)(34))5)", 6, "(((12)(34))(56))"},
		{"(((12)(34))(56))", 7, "(((12)(34))((56)7))"},
		{"((56)((12)(34)))", 7, "(((56)7)((12)(34)))"},
		{"(1(2(34)))", 5, "(1((25)(34)))"},
		{"(((12)3)4)", 5, "(((12)3)(45))"},
		{"((1(23))(4(56)))", 7, "((1(23))((47)(56)))"},
		{"(((23)1)(4(56)))", 7, "(((23)1)((47)(56)))"},
		{"((12)(3(45)))", 6, "((12)((36)(45)))"},
		{"(((12)(34))((56)7))", 8, "(((12)(34))((56)(78)))"},
		{"((((((76)5)4)3)2)1)", 8, "((((((76)5)4)3)2)(18))"},
	} {
		if got, e := tree.Join(c.t, c.p); got != c.want || e != api.OK {
			t.Errorf("Join(%s, %d): %q %d, want %q", short(c.t), c.p, got, e, c.want)
		}
	}
}

// T2: nobody joins what is no tree, or a tree that has it already, and none joins that is no process.
func TestJoinWrong(t *testing.T) {
	for _, w := range wrongs() {
		for _, p := range edges() {
			if got, e := tree.Join(w, p); got != "" || e != api.ErrArg {
				t.Fatalf("Join(%s, %d): %q %d", short(w), p, got, e)
			}
		}
	}
	for _, x := range []tree.Tree{"8", "(12)", "((12)(78))", "(((12)(34))((56)(78)))"} {
		for _, p := range append(edges(), 3, 4, 5, 6) {
			checkJoin(t, x, p)
		}
	}
}

// T2: all trees of few processes, and some of many, against a plain second reading.
func TestJoinPlain(t *testing.T) {
	for _, x := range few() {
		if len(x) < 13 {
			checkJoin(t, x, 4)
		}
		checkJoin(t, x, 3)
	}
	r := rand.New(rand.NewSource(131))
	for range 2000 {
		checkJoin(t, some(r, 1+r.Intn(8)), r.Intn(10))
	}
}
