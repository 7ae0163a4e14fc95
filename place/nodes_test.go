package place_test

import (
	"testing"

	"gemot/api"
	"gemot/place"
	"gemot/tree"
)

// P1: the nodes of a tree are told the shorter ones first, of those as long by bytes.
func TestNodes(t *testing.T) {
	for _, c := range []struct {
		t    tree.Tree
		want []string
	}{
		{"1", []string{""}},
		{"8", []string{""}},
		{"(21)", []string{"", "l", "r"}},
		{"((12)3)", []string{"", "l", "r", "ll", "lr"}},
		{"(3(12))", []string{"", "l", "r", "rl", "rr"}},
		{"((12)(34))", []string{"", "l", "r", "ll", "lr", "rl", "rr"}},
		{"((1(23))((45)6))", []string{"", "l", "r", "ll", "lr", "rl", "rr", "lrl", "lrr", "rll", "rlr"}},
		{"(1(2(34)))", []string{"", "l", "r", "rl", "rr", "rrl", "rrr"}},
		{"(((12)(34))((56)(78)))", []string{"", "l", "r", "ll", "lr", "rl", "rr", "lll", "llr", "lrl", "lrr", "rll", "rlr", "rrl", "rrr"}},
	} {
		checkList(t, "Nodes of "+short(c.t), place.Nodes(c.t), c.want)
	}
}

// P1: at the root stands the tree itself, at each other node one half of what stands above it.
func TestAt(t *testing.T) {
	const x tree.Tree = "((1(23))((45)6))"
	for node, want := range map[string]tree.Tree{"": x, "l": "(1(23))", "r": "((45)6)", "ll": "1", "lr": "(23)", "lrl": "2", "lrr": "3", "rl": "(45)", "rll": "4", "rlr": "5", "rr": "6"} {
		checkAt(t, x, node, want, api.OK)
	}
	for _, node := range []string{"lll", "llr", "rrl", "rrr", "lrll", "rlrr", "lrrl"} {
		checkAt(t, x, node, "", api.ErrNone)
	}
	checkAt(t, "7", "", "7", api.OK)
	checkAt(t, "7", "l", "", api.ErrNone)
	checkAt(t, "7", "r", "", api.ErrNone)
}

// P1: of what is no tree there are no nodes; at any of its nodes that is told, and nothing else.
func TestNodesWrong(t *testing.T) {
	for _, w := range wrongs() {
		checkList(t, "Nodes of "+short(w), place.Nodes(w), nil)
		for _, node := range append(oddNodes(), "", "l", "r", "ll", "lr") {
			checkAt(t, w, node, "", api.ErrArg)
		}
	}
}

// P1: a text that is no way stands nowhere.
func TestAtOdd(t *testing.T) {
	for _, x := range []tree.Tree{"1", "(12)", "((12)(34))", "(((12)(34))((56)(78)))", "(((((((12)3)4)5)6)7)8)", "(1(2(3(4(5(6(78)))))))"} {
		for _, node := range oddNodes() {
			checkAt(t, x, node, "", api.ErrNone)
		}
	}
}

// P1: many trees, against tables of what stands where, with each node, and each that lacks a byte, has one more, or another one.
func TestNodesPlain(t *testing.T) {
	for _, m := range many() {
		nodes := m.nodes()
		checkList(t, "Nodes of "+short(m.text()), place.Nodes(m.text()), nodes)
		for _, node := range nodes {
			checkNear(t, m, node)
		}
	}
}

// checkNear holds a node, and those that are nearly it, against what stands in the table.
func checkNear(t *testing.T, m model, node string) {
	t.Helper()
	near := []string{node, node + "l", node + "r", node + "x", "l" + node, "r" + node, "\x00" + node, node + " "}
	for i := range len(node) {
		near = append(near, node[:i]+node[i+1:], node[:i]+"l"+node[i+1:], node[:i]+"r"+node[i+1:], node[:i]+"L"+node[i+1:])
	}
	for _, n := range near {
		want, there := m[n]
		if there {
			checkAt(t, m.text(), n, want, api.OK)
		} else {
			checkAt(t, m.text(), n, "", api.ErrNone)
		}
		checkSponsor(t, m.text(), n, m.sponsor(n))
	}
}
