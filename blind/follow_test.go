package blind_test

import (
	"math/rand"
	"slices"
	"testing"

	"gemot/api"
	"gemot/blind"
	"gemot/know"
	"gemot/place"
	"gemot/term"
	"gemot/tree"
)

// B4: whoever climbs with the blinds beside its path comes to the secret of all.
func TestAllComeToRoot(t *testing.T) {
	r := rand.New(rand.NewSource(4))
	for _, m := range many(r) {
		secrets := names(len(m.procs))
		l := m.blinds(m.own(secrets))
		r.Shuffle(len(l), func(i, j int) { l[i], l[j] = l[j], l[i] })
		want, e := blind.Root(m.text, secrets)
		if e != api.OK {
			t.Fatal(short(m.text), e)
		}
		for i, p := range m.procs {
			co := place.Co(m.text, p)
			beside := slices.DeleteFunc(slices.Clone(l), func(b blind.Blind) bool { return !slices.Contains(co, b.Node) })
			for _, known := range [][]blind.Blind{l, beside} {
				climbed := blind.Climb(m.text, p, secrets[i], known)
				if len(climbed) != len(place.Path(m.text, p)) || climbed[len(climbed)-1] != want {
					t.Fatalf("%s, %d: %s, want %s", short(m.text), p, shorts(climbed), short(want))
				}
			}
		}
	}
}

// B4: it comes so far with secrets that have just room, too.
func TestAllComeToRootAtTheBounds(t *testing.T) {
	for _, long := range (row{wide(19976), hashes(396)}) {
		for _, m := range models(1, 4, 8) {
			for turn := range 3 {
				secrets := row{x, y, z}
				secrets[turn] = long
				want, e := blind.Root(m.text, secrets)
				for i, p := range m.procs {
					climbed := blind.Climb(m.text, p, secrets[i], m.blinds(m.own(secrets)))
					if e != api.OK || climbed[len(climbed)-1] != want {
						t.Fatalf("%s, %d: %d, %s, want %s", short(m.text), p, e, shorts(climbed), short(want))
					}
				}
			}
		}
	}
}

// heard are all blinds of a tree but that of the root, by the program's own calls, and its secret.
func heard(t *testing.T, m *model, secrets row) (known row, root term.Term) {
	t.Helper()
	own := m.own(secrets)
	m.each("", func(node string, below *model) {
		var mine row
		for _, p := range tree.Members(below.text) {
			mine = append(mine, own[p])
		}
		secret, e := blind.Root(below.text, mine)
		if e != api.OK {
			t.Fatal(short(below.text), e)
		}
		if node == "" {
			root = secret
			return
		}
		element, e := blind.Element(secret)
		if e != api.OK {
			t.Fatal(short(below.text), e)
		}
		known = append(known, element)
	})
	return known, root
}

// B4: nobody makes the secret of all, or a key of it, of the blinds alone, with whatever all know; who has one secret more, does.
func TestHiddenFromWhoHears(t *testing.T) {
	v := of(3, 2, 1, 2)
	for _, m := range many(rand.New(rand.NewSource(44))) {
		secrets := names(len(m.procs))
		known, root := heard(t, m, secrets)
		key, e := blind.Group(v, root)
		if e != api.OK {
			t.Fatal(e)
		}
		known = append(known, spelled(v), "i\x01", x)
		for _, goal := range (row{root, key}) {
			if know.Derivable(known, goal) {
				t.Fatalf("%s: %s is made", short(m.text), short(goal))
			}
			for _, secret := range secrets {
				if !know.Derivable(append(slices.Clone(known), secret), goal) {
					t.Fatalf("%s: %s is not made, with %s", short(m.text), short(goal), short(secret))
				}
			}
		}
	}
}
