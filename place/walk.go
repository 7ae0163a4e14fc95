package place

import (
	"iter"
	"slices"

	"gemot/tree"
)

// A node is the way to it: the root's is without a step.
const (
	root    = ""
	toLeft  = "l"
	toRight = "r"
)

// spot is a node, and the tree that stands there.
type spot struct {
	node   string
	stands tree.Tree
}

// down tells each node of a tree, and what stands there: the shorter ones first, and of those as long the left ones, which is their order by bytes, too. Of what is no tree it tells none.
func down(t tree.Tree) iter.Seq2[string, tree.Tree] {
	return func(yield func(string, tree.Tree) bool) {
		if !tree.Right(t) {
			return
		}
		for rest := []spot{{root, t}}; len(rest) > 0; rest = rest[1:] {
			s := rest[0]
			if !yield(s.node, s.stands) {
				return
			}
			if left, right, ok := halves(s.stands); ok {
				rest = append(rest, spot{s.node + toLeft, left}, spot{s.node + toRight, right})
			}
		}
	}
}

// up tells the nodes from the leaf of a process to the root, and what stands at each. Of a process that is not in the tree it tells none.
func up(t tree.Tree, p int) iter.Seq2[string, tree.Tree] {
	return func(yield func(string, tree.Tree) bool) {
		var path []spot
		for node, stands := range down(t) {
			if slices.Contains(tree.Members(stands), p) {
				path = append(path, spot{node, stands})
			}
		}
		for _, s := range slices.Backward(path) {
			if !yield(s.node, s.stands) {
				return
			}
		}
	}
}

// gather is the nodes that a walk tells, in its order.
func gather(walk iter.Seq2[string, tree.Tree]) []string {
	var nodes []string
	for node := range walk {
		nodes = append(nodes, node)
	}
	return nodes
}

// halves are the two trees in a right one; a leaf has none. The left one ends where all that it opened is closed.
func halves(t tree.Tree) (left, right tree.Tree, ok bool) {
	open := 0
	for i := 1; i < len(t); i++ {
		switch t[i] {
		case '(':
			open++
		case ')':
			open--
		}
		if open == 0 {
			return t[1 : i+1], t[i+1 : len(t)-1], true
		}
	}
	return "", "", false
}

// least is the least process of a right tree: there is always one.
func least(t tree.Tree) int { return slices.Min(tree.Members(t)) }
