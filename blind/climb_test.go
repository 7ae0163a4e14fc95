package blind_test

import (
	"math/rand"
	"slices"
	"strconv"
	"testing"

	"gemot/blind"
	"gemot/term"
)

// low and root are secrets of the nodes of ((12)3), if its members have x, y and z.
const (
	low  = "ke\x02" + x + y
	root = "ke\x02" + low + z
)

func of3() []blind.Blind {
	return []blind.Blind{{Node: "ll", Element: "e\x01" + x}, {Node: "lr", Element: "e\x01" + y}, {Node: "l", Element: "e\x01" + low}, {Node: "r", Element: "e\x01" + z}, {Node: "", Element: "e\x01" + root}}
}

// B2: from a leaf up, with whatever is beside: what stands on the path itself, or at the root, is not asked for.
func TestClimb(t *testing.T) {
	all := of3()
	for _, c := range []struct {
		p      int
		secret term.Term
		l      []blind.Blind
		want   row
	}{
		{1, x, all, row{x, low, root}},
		{2, y, all, row{y, low, root}},
		{3, z, all, row{z, root}},
		{1, x, all[1:2], row{x, low}},
		{1, x, all[3:4], row{x}},
		{1, x, []blind.Blind{all[3], all[1]}, row{x, low, root}},
		{1, x, []blind.Blind{all[0], all[2], all[4]}, row{x}},
		{3, z, all[2:3], row{z, root}},
		{3, z, all[:2], row{z}},
		{2, y, nil, row{y}},
		{2, w, all, row{w, "ke\x02" + x + w, "ke\x02ke\x02" + x + w + z}},
	} {
		checkClimb(t, "((12)3)", c.p, c.secret, c.l, c.want)
	}
	for _, l := range [][]blind.Blind{nil, all} {
		checkClimb(t, "3", 3, z, l, row{z})
	}
}

// B2: of several of one node the first one is taken, and no other one, be it wrong.
func TestClimbFirst(t *testing.T) {
	all := of3()
	checkClimb(t, "((12)3)", 1, x, slices.Concat([]blind.Blind{{Node: "lr", Element: "g"}}, all), row{x, "ke\x01" + x, "ke\x02ke\x01" + x + z})
	checkClimb(t, "((12)3)", 1, x, append(all, blind.Blind{Node: "lr", Element: "g"}, blind.Blind{Node: "r"}), row{x, low, root})
	for _, wrong := range append(wrongTerms(), x, "kg", power(32), wide(20000)) {
		checkClimb(t, "((12)3)", 1, x, slices.Concat([]blind.Blind{{Node: "lr", Element: wrong}}, all), row{x})
		checkClimb(t, "((12)3)", 1, x, slices.Concat([]blind.Blind{{Node: "r", Element: wrong}}, all), row{x, low})
		checkClimb(t, "((12)3)", 1, x, slices.Concat([]blind.Blind{{Node: "l", Element: wrong}, {Node: "ll", Element: wrong}, {Node: "", Element: wrong}, {Node: "lrl", Element: wrong}}, all), row{x, low, root})
	}
}

// B2: one's own secret is the first one, whatever it is; nothing comes of one that is not right, or has no room.
func TestClimbSecret(t *testing.T) {
	for _, wrong := range append(wrongTerms(), wide(19998), wide(20000), hashes(399), hashes(400)) {
		checkClimb(t, "((12)3)", 1, wrong, of3(), row{wrong})
		checkClimb(t, "((12)3)", 1, wrong, nil, row{wrong})
		checkClimb(t, "8", 8, wrong, nil, row{wrong})
	}
	for _, secret := range (row{hashes(396), wide(19976)}) {
		checkClimb(t, "((12)3)", 1, secret, of3(), row{secret, above(secret, y), above(above(secret, y), z)})
	}
	for _, secret := range (row{hashes(397), hashes(398), wide(19977), wide(19988)}) {
		checkClimb(t, "((12)3)", 1, secret, of3(), row{secret, above(secret, y)})
	}
}

// above spells the secret of the node above two.
func above(a, b term.Term) term.Term { return "ke\x02" + min(a, b) + max(a, b) }

// B2: there are no secrets of who is not in the tree, nor of what is no tree.
func TestClimbWrong(t *testing.T) {
	for _, text := range wrongTrees() {
		for _, p := range append(edges(), 1, 2, 3) {
			checkClimb(t, text, p, x, of3(), nil)
		}
	}
	for _, p := range append(edges(), 4, 5, 6, 7, 8) {
		checkClimb(t, "((12)3)", p, x, of3(), nil)
		checkClimb(t, "3", p, x, nil, nil)
	}
}

// B2: blinds of any texts, of which very many are none of the tree.
func TestClimbLong(t *testing.T) {
	var l []blind.Blind
	for i := range 1 << 17 {
		l = append(l, blind.Blind{Node: "l" + strconv.Itoa(i), Element: "g"})
	}
	checkClimb(t, "((12)3)", 2, y, l, row{y})
	checkClimb(t, "((12)3)", 2, y, append(l, of3()...), row{y, low, root})
}

// B2: each process of many trees, with blinds of which some lack, come twice, are turned or wrong, against the words said again.
func TestClimbPlain(t *testing.T) {
	r := rand.New(rand.NewSource(15))
	odd := append(oddTerms(), wrongTerms()[:20]...)
	for _, m := range many(r) {
		own := m.own(names(len(m.procs)))
		for p := range 10 {
			l := m.blinds(own)
			for range r.Intn(4) {
				l = append(l, blind.Blind{Node: l[r.Intn(len(l))].Node, Element: odd[r.Intn(len(odd))]})
			}
			r.Shuffle(len(l), func(i, j int) { l[i], l[j] = l[j], l[i] })
			l = l[r.Intn(3)*len(l)/8:]
			secret := own[p]
			if r.Intn(8) == 0 {
				secret = odd[r.Intn(len(odd))]
			}
			want, _ := m.climb("", p, secret, l)
			checkClimb(t, m.text, p, secret, l, want)
		}
	}
}
