package tree

import (
	"slices"
	"strconv"
	"strings"

	"gemot/api"
)

// mostBytes is what the tree of all processes has: a digit of each, and two brackets for each but one. Of what is longer nothing is read, however deep it goes.
const mostBytes = 3*api.MaxProcs - 2

// node is a leaf, of a process, or stands above two others and is of none.
type node struct {
	proc        int
	left, right *node
}

func above(left, right *node) *node { return &node{left: left, right: right} }

func (n *node) leaf() bool { return n.proc != 0 }

// read is the root of what a tree says, nil if it is no tree.
func read(t Tree) *node {
	if len(t) > mostBytes {
		return nil
	}
	rest := t
	var seen [api.MaxProcs + 1]bool
	next := func() byte {
		if rest == "" {
			return 0
		}
		b := rest[0]
		rest = rest[1:]
		return b
	}
	var one func() *node
	one = func() *node {
		b := next()
		if p := int(b) - '0'; isProc(p) && !seen[p] {
			seen[p] = true
			return &node{proc: p}
		}
		if b != '(' {
			return nil
		}
		left := one()
		if left == nil {
			return nil
		}
		right := one()
		if right == nil || next() != ')' {
			return nil
		}
		return above(left, right)
	}
	root := one()
	if rest != "" {
		return nil
	}
	return root
}

func isProc(p int) bool { return p >= 1 && p <= api.MaxProcs }

// write is the tree that a node is the root of.
func write(root *node) Tree {
	var text strings.Builder
	var walk func(n *node)
	walk = func(n *node) {
		if n.leaf() {
			text.WriteString(strconv.Itoa(n.proc))
			return
		}
		text.WriteByte('(')
		walk(n.left)
		walk(n.right)
		text.WriteByte(')')
	}
	walk(root)
	return Tree(text.String())
}

// members are the processes below a node, the lesser ones first, wherever they stand.
func members(root *node) []int {
	var procs []int
	var walk func(n *node)
	walk = func(n *node) {
		if n.leaf() {
			procs = append(procs, n.proc)
			return
		}
		walk(n.left)
		walk(n.right)
	}
	walk(root)
	slices.Sort(procs)
	return procs
}

// depths are how deep below a node its highest leaf is, and its lowest one. They are the same of a full tree alone.
func depths(root *node) (least, most int) {
	var walk func(n *node) (least, most int)
	walk = func(n *node) (least, most int) {
		if n.leaf() {
			return 0, 0
		}
		leastLeft, mostLeft := walk(n.left)
		leastRight, mostRight := walk(n.right)
		return 1 + min(leastLeft, leastRight), 1 + max(mostLeft, mostRight)
	}
	return walk(root)
}

// place is where the next process joins. Below a full tree none is looked at: whatever is there is in another full one.
func place(root *node) *node {
	var found *node
	shallowest := 0
	var walk func(n *node)
	walk = func(n *node) {
		least, most := depths(n)
		if least < most {
			walk(n.left)
			walk(n.right)
			return
		}
		if found == nil || most <= shallowest {
			found, shallowest = n, most
		}
	}
	walk(root)
	return found
}

// join has a process stand beside the place.
func join(root *node, p int) {
	beside := place(root)
	was := *beside
	*beside = *above(&was, &node{proc: p})
}

// leave is the root of what is left without a process, nil if it is the only one.
func leave(root *node, p int) *node {
	var without func(n *node) *node
	without = func(n *node) *node {
		if n.proc == p {
			return nil
		}
		if n.leaf() {
			return n
		}
		left, right := without(n.left), without(n.right)
		if left == nil {
			return right
		}
		if right == nil {
			return left
		}
		return above(left, right)
	}
	return without(root)
}
