package blind_test

import (
	"math/rand"
	"testing"

	"gemot/api"
	"gemot/term"
	"gemot/tree"
)

// B3: the secret of all is made of those of the members, the least process having the first one, wherever it stands.
func TestRoot(t *testing.T) {
	for _, c := range []struct {
		t       tree.Tree
		secrets row
		want    term.Term
	}{
		{"(12)", row{x, y}, "ke\x02" + x + y},
		{"(12)", row{y, x}, "ke\x02" + x + y},
		{"(12)", row{x, x}, "ke\x02" + x + x},
		{"((12)3)", row{x, y, z}, root},
		{"(3(21))", row{x, y, z}, root},
		{"((74)8)", row{x, y, z}, root},
		{"(3(12))", row{y, z, x}, "ke\x02ke\x02" + y + z + x},
		{"((81)5)", row{x, y, z}, "ke\x02ke\x02" + x + z + y},
		{"((12)(34))", row{x, y, z, w}, "ke\x02ke\x02" + x + y + "ke\x02" + z + w},
		{"((34)(12))", row{x, y, z, w}, "ke\x02ke\x02" + x + y + "ke\x02" + z + w},
		{"((14)(23))", row{x, y, z, w}, "ke\x02ke\x02" + x + w + "ke\x02" + y + z},
		{"(12)", row{"g", "kg"}, "ke\x02gkg"},
		{"(12)", row{hashes(398), x}, "ke\x02" + hashes(398) + x},
		{"(21)", row{hashes(398), x}, "ke\x02" + hashes(398) + x},
		{"(12)", row{wide(19988), x}, "ke\x02" + x + wide(19988)},
	} {
		checkRoot(t, c.t, c.secrets, c.want, api.OK)
	}
}

// B3: of one alone it is its own, whatever that is.
func TestRootAlone(t *testing.T) {
	for _, secret := range append(oddTerms(), wrongTerms()...) {
		checkRoot(t, "1", row{secret}, secret, api.OK)
		checkRoot(t, "8", row{secret}, secret, api.OK)
	}
}

// B3: there is none of what is no tree, nor of other than as many secrets as members.
func TestRootWrong(t *testing.T) {
	for _, text := range wrongTrees() {
		for size := range 10 {
			checkRoot(t, text, names(size), "", api.ErrArg)
		}
	}
	for _, text := range []tree.Tree{"1", "8", "(12)", "((12)3)", "((12)(34))", "(((12)(34))((56)(78)))"} {
		for size := range 20 {
			if size != len(tree.Members(text)) {
				checkRoot(t, text, names(size), "", api.ErrArg)
			}
		}
		checkRoot(t, text, nil, "", api.ErrArg)
		checkRoot(t, text, names(1<<16), "", api.ErrArg)
	}
}

// B3: of several errors that of the left node comes ahead of that of the right one, both ahead of what is above; at one node Element of the left one comes ahead of all.
func TestRootErrors(t *testing.T) {
	deep, long, wrong := hashes(400), wide(20000), term.Term("q")
	for _, c := range []struct {
		t       tree.Tree
		secrets row
		want    api.Errno
	}{
		{"(12)", row{wrong, x}, api.ErrArg},
		{"(12)", row{x, wrong}, api.ErrArg},
		{"(12)", row{deep, wrong}, api.ErrDeep},
		{"(21)", row{deep, wrong}, api.ErrArg},
		{"(12)", row{deep, long}, api.ErrDeep},
		{"(12)", row{long, deep}, api.ErrLong},
		{"(12)", row{x, deep}, api.ErrDeep},
		{"(12)", row{wide(19989), x}, api.ErrLong},
		{"(12)", row{x, wide(19989)}, api.ErrLong},
		{"(12)", row{hashes(399), x}, api.ErrDeep},
		{"(12)", row{x, hashes(399)}, api.ErrDeep},
		{"(12)", row{hashes(399), wrong}, api.ErrArg},
		{"((12)3)", row{deep, x, wrong}, api.ErrDeep},
		{"(3(12))", row{deep, x, wrong}, api.ErrDeep},
		{"(3(12))", row{x, deep, long}, api.ErrDeep},
		{"((12)(34))", row{x, deep, long, x}, api.ErrDeep},
		{"((34)(12))", row{x, deep, long, x}, api.ErrLong},
		{"((12)(34))", row{x, y, long, wrong}, api.ErrLong},
		{"((12)(34))", row{wide(10000), x, wide(10000), wrong}, api.ErrArg},
		{"((12)(34))", row{wide(10000), x, wide(10000), x}, api.ErrLong},
		{"((12)(34))", row{hashes(398), x, wide(19988), deep}, api.ErrLong},
		{"((12)(34))", row{hashes(398), x, wide(19988), y}, api.ErrDeep},
		{"((34)(12))", row{hashes(398), x, wide(19988), y}, api.ErrLong},
	} {
		checkRoot(t, c.t, c.secrets, "", c.want)
	}
}

// B3: many trees, with names, and with some others among them, against the words said again.
func TestRootPlain(t *testing.T) {
	r := rand.New(rand.NewSource(153))
	odd := append(oddTerms(), wrongTerms()[:20]...)
	for _, m := range many(r) {
		for changed := range 4 {
			secrets := names(len(m.procs))
			r.Shuffle(len(secrets), func(i, j int) { secrets[i], secrets[j] = secrets[j], secrets[i] })
			for range changed {
				secrets[r.Intn(len(secrets))] = odd[r.Intn(len(odd))]
			}
			want, wantErr := m.root(m.own(secrets))
			checkRoot(t, m.text, secrets, want, wantErr)
		}
	}
}
