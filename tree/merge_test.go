package tree_test

import (
	"math/rand"
	"testing"

	"gemot/api"
	"gemot/tree"
)

// T2: of two trees the left one is that of the greater depth; of as deep ones that of more members; of as many that with the least process of all.
func TestMerge(t *testing.T) {
	for _, c := range []struct{ a, b, want tree.Tree }{
		{"1", "2", "(12)"},
		{"2", "1", "(12)"},
		{"5", "(12)", "((12)5)"},
		{"(12)", "5", "((12)5)"},
		{"1", "(28)", "((28)1)"},
		{"(56)", "(17)", "((17)(56))"},
		{"(17)", "(56)", "((17)(56))"},
		{"(65)", "(71)", "((71)(65))"},
		{"((56)7)", "((12)(34))", "(((12)(34))((56)7))"},
		{"((12)3)", "((45)(67))", "(((45)(67))((12)3))"},
		{"((12)(34))", "(5(6(78)))", "((5(6(78)))((12)(34)))"},
		{"((83)4)", "((75)6)", "(((83)4)((75)6))"},
		{"((75)6)", "(8(43))", "((8(43))((75)6))"},
		{"(((65)4)(32))", "(7(81))", "((((65)4)(32))(7(81)))"},
		{"((23)(45))", "((1(67))8)", "(((1(67))8)((23)(45)))"},
		{"(2(3(45)))", "((1(67))8)", "(((1(67))8)(2(3(45))))"},
	} {
		if got, e := tree.Merge(c.a, c.b); got != c.want || e != api.OK {
			t.Errorf("Merge(%s, %s): %q %d, want %q", short(c.a), short(c.b), got, e, c.want)
		}
	}
}

// T2: no tree, and trees that share a process, are not merged.
func TestMergeWrong(t *testing.T) {
	for _, w := range wrongs() {
		for _, x := range []tree.Tree{"1", "(47)", "((34)(58))", w, "", "0"} {
			for _, c := range [][2]tree.Tree{{w, x}, {x, w}} {
				if got, e := tree.Merge(c[0], c[1]); got != "" || e != api.ErrArg {
					t.Fatalf("Merge(%s, %s): %q %d", short(c[0]), short(c[1]), got, e)
				}
			}
		}
	}
	for _, c := range [][2]tree.Tree{{"1", "1"}, {"(12)", "2"}, {"8", "((12)8)"}, {"((12)3)", "((12)3)"}, {"(34)", "((12)(45))"}, {"(((12)(34))((56)(78)))", "5"}} {
		if got, e := tree.Merge(c[0], c[1]); got != "" || e != api.ErrArg {
			t.Errorf("Merge(%s, %s): %q %d", short(c[0]), short(c[1]), got, e)
		}
	}
}

// T2: each two of trees of up to three processes, and some of more, against a plain second reading.
func TestMergePlain(t *testing.T) {
	var small []tree.Tree
	for _, x := range few() {
		if len(x) <= 7 {
			small = append(small, x)
		}
	}
	for _, a := range small {
		for _, b := range small {
			checkMerge(t, a, b)
		}
	}
	r := rand.New(rand.NewSource(133))
	merged := 0
	for range 20000 {
		a, b := some(r, 1+r.Intn(5)), some(r, 1+r.Intn(5))
		checkMerge(t, a, b)
		if got, _ := tree.Merge(a, b); got != "" {
			checkText(t, got)
			merged++
		}
	}
	if merged < 1000 {
		t.Error("merged", merged)
	}
}
