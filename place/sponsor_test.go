package place_test

import (
	"slices"
	"testing"

	"gemot/place"
	"gemot/tree"
)

// P3: the sponsor of a node is the least process below it, wherever that one stands.
func TestSponsor(t *testing.T) {
	const x tree.Tree = "((6(53))((42)7))"
	for node, want := range map[string]int{"": 2, "l": 3, "r": 2, "ll": 6, "lr": 3, "lrl": 5, "lrr": 3, "rl": 2, "rll": 4, "rlr": 2, "rr": 7} {
		checkSponsor(t, x, node, want)
	}
	checkSponsor(t, "8", "", 8)
	checkSponsor(t, "(87)", "", 7)
}

// P3: nobody answers for a node that is not there.
func TestSponsorWrong(t *testing.T) {
	for _, w := range wrongs() {
		for _, node := range append(oddNodes(), "", "l", "r", "ll", "rr") {
			checkSponsor(t, w, node, 0)
		}
	}
	for _, x := range []tree.Tree{"1", "(12)", "((12)(34))", "(((((((12)3)4)5)6)7)8)"} {
		for _, node := range oddNodes() {
			checkSponsor(t, x, node, 0)
		}
	}
	for _, node := range []string{"lll", "rl", "rr", "lrr"} {
		checkSponsor(t, "((12)3)", node, 0)
	}
}

// P3: the duties of a process are the nodes of its path whose sponsor it is, but the root, from its leaf up.
func TestDuties(t *testing.T) {
	for _, c := range []struct {
		t    tree.Tree
		p    int
		want []string
	}{
		{"((12)3)", 1, []string{"ll", "l"}},
		{"((12)3)", 2, []string{"lr"}},
		{"((12)3)", 3, []string{"r"}},
		{"(3(21))", 1, []string{"rr", "r"}},
		{"(3(21))", 2, []string{"rl"}},
		{"5", 5, nil},
		{"(48)", 4, []string{"l"}},
		{"(48)", 8, []string{"r"}},
		{"(((65)(87))((43)(21)))", 1, []string{"rrr", "rr", "r"}},
		{"(((65)(87))((43)(21)))", 5, []string{"llr", "ll", "l"}},
		{"(((65)(87))((43)(21)))", 3, []string{"rlr", "rl"}},
		{"(((65)(87))((43)(21)))", 8, []string{"lrl"}},
		{"(8(7(6(5(4(3(21)))))))", 1, []string{"rrrrrrr", "rrrrrr", "rrrrr", "rrrr", "rrr", "rr", "r"}},
		{"(1(2(3(4(5(6(78)))))))", 7, []string{"rrrrrrl", "rrrrrr"}},
	} {
		checkList(t, "Duties of "+short(c.t), place.Duties(c.t, c.p), c.want)
	}
}

// P3: nobody has duties in what is no tree, or without being in it.
func TestDutiesWrong(t *testing.T) {
	for _, w := range wrongs() {
		for _, p := range append(edges(), 1, 2, 8) {
			checkList(t, "Duties of "+short(w), place.Duties(w, p), nil)
		}
	}
	for _, x := range []tree.Tree{"1", "(12)", "((18)2)", "(2(81))"} {
		for _, p := range append(edges(), 3, 4, 5, 6, 7) {
			checkList(t, "Duties of "+short(x), place.Duties(x, p), nil)
		}
	}
}

// P3: each node and each process of many trees, against tables of what stands where.
func TestSponsorPlain(t *testing.T) {
	for _, m := range many() {
		for node := range m {
			checkSponsor(t, m.text(), node, m.sponsor(node))
		}
		for p := range 10 {
			checkList(t, "Duties of "+short(m.text()), place.Duties(m.text(), p), m.duties(p))
		}
	}
}

// P4: each node but the root is the duty of just one process, and the root of none.
func TestEachNodeIsOnesDuty(t *testing.T) {
	for _, m := range many() {
		var all []string
		for p := range 10 {
			all = append(all, place.Duties(m.text(), p)...)
		}
		want := place.Nodes(m.text())[1:]
		slices.Sort(all)
		slices.Sort(want)
		checkList(t, "all duties of "+short(m.text()), all, want)
	}
}

// P4: what is beside a process's path is a node of the tree, and on no path of it.
func TestBesideIsOnNoPath(t *testing.T) {
	for _, m := range many() {
		nodes := place.Nodes(m.text())
		for _, p := range tree.Members(m.text()) {
			path := place.Path(m.text(), p)
			for _, node := range path[:len(path)-1] {
				beside := place.Beside(node)
				if slices.Contains(path, beside) || !slices.Contains(nodes, beside) || place.Beside(beside) != node {
					t.Fatalf("%s, %d: %q is beside %q", short(m.text()), p, beside, node)
				}
			}
		}
	}
}
