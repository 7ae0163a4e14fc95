package tree_test

import (
	"math/bits"
	"math/rand"
	"slices"
	"testing"

	"gemot/api"
	"gemot/tree"
	"gemot/view"
)

// checkGoAndCome has each process that is in a tree leave it, and each that is not join it, and leave again.
func checkGoAndCome(t *testing.T, x tree.Tree) {
	t.Helper()
	members := tree.Members(x)
	for p := 1; p <= 8; p++ {
		if view.Has(members, p) {
			y, e := tree.Leave(x, p)
			if len(members) > 1 && (e != api.OK || !slices.Equal(tree.Members(y), view.Without(members, []int{p}))) {
				t.Fatalf("Leave(%s, %d): %q %d", short(x), p, y, e)
			}
			continue
		}
		y, e := tree.Join(x, p)
		want := append(slices.Clone(members), p)
		slices.Sort(want)
		if e != api.OK || !slices.Equal(tree.Members(y), want) {
			t.Fatalf("Join(%s, %d): %q %d", short(x), p, y, e)
		}
		if z, e := tree.Leave(y, p); z != x || e != api.OK {
			t.Fatalf("%s, joined by %d: %q; left again: %q %d", short(x), p, y, z, e)
		}
	}
}

// T3: Join and Leave change the members by just one, and one that joined and leaves again leaves the tree as it was.
func TestGoAndCome(t *testing.T) {
	for _, x := range few() {
		checkGoAndCome(t, x)
	}
	r := rand.New(rand.NewSource(134))
	for range 3000 {
		checkGoAndCome(t, some(r, 1+r.Intn(8)))
	}
}

// T3: a built tree has its members, and the least depth that holds so many.
func TestBuiltIsShallow(t *testing.T) {
	for _, l := range rows() {
		x, e := tree.Build(l)
		if e != api.OK || !slices.Equal(tree.Members(x), l) || tree.Depth(x) != bits.Len(uint(len(l)-1)) {
			t.Errorf("Build(%v): %q %d, depth %d", l, x, e, tree.Depth(x))
		}
	}
}
