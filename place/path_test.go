package place_test

import (
	"math/rand"
	"strings"
	"testing"

	"gemot/place"
	"gemot/tree"
)

// P2: a path goes from the leaf of a process up to the root; beside it are the other halves, in the same order.
func TestPath(t *testing.T) {
	for _, c := range []struct {
		t        tree.Tree
		p        int
		path, co []string
	}{
		{"((12)3)", 2, []string{"lr", "l", ""}, []string{"ll", "r"}},
		{"((12)3)", 3, []string{"r", ""}, []string{"l"}},
		{"4", 4, []string{""}, nil},
		{"(81)", 8, []string{"l", ""}, []string{"r"}},
		{"(81)", 1, []string{"r", ""}, []string{"l"}},
		{"(5(4(3(2(16)))))", 6, []string{"rrrrr", "rrrr", "rrr", "rr", "r", ""}, []string{"rrrrl", "rrrl", "rrl", "rl", "l"}},
		{"(5(4(3(2(16)))))", 4, []string{"rl", "r", ""}, []string{"rr", "l"}},
		{"(((12)(34))((56)(78)))", 6, []string{"rlr", "rl", "r", ""}, []string{"rll", "rr", "l"}},
		{"(((12)(34))((56)(78)))", 3, []string{"lrl", "lr", "l", ""}, []string{"lrr", "ll", "r"}},
	} {
		checkList(t, "Path of "+short(c.t), place.Path(c.t, c.p), c.path)
		checkList(t, "Co of "+short(c.t), place.Co(c.t, c.p), c.co)
	}
}

// P2: nothing goes up in what is no tree, nor from one that is not in it, be it no process.
func TestPathWrong(t *testing.T) {
	for _, w := range wrongs() {
		for _, p := range append(edges(), 1, 2, 3, 8) {
			checkList(t, "Path of "+short(w), place.Path(w, p), nil)
			checkList(t, "Co of "+short(w), place.Co(w, p), nil)
		}
	}
	for _, x := range []tree.Tree{"1", "(12)", "((18)2)", "(2(81))"} {
		for _, p := range append(edges(), 3, 4, 5, 6, 7) {
			checkList(t, "Path of "+short(x), place.Path(x, p), nil)
			checkList(t, "Co of "+short(x), place.Co(x, p), nil)
		}
	}
}

// P2: each process of many trees, and each that is not in them, against tables of what stands where.
func TestPathPlain(t *testing.T) {
	for _, m := range many() {
		for p := range 10 {
			checkList(t, "Path of "+short(m.text()), place.Path(m.text(), p), m.path(p))
			checkList(t, "Co of "+short(m.text()), place.Co(m.text(), p), m.co(p))
		}
	}
}

// P2: the last letter of a node is turned, and no other one: what is no l turns into l. The root stays.
func TestBeside(t *testing.T) {
	for node, want := range map[string]string{
		"": "", "l": "r", "r": "l", "ll": "lr", "lr": "ll", "rl": "rr", "rr": "rl", "lrlrlrl": "lrlrlrr", "rrrrrrr": "rrrrrrl",
		"x": "l", "L": "l", "R": "l", "1": "l", " ": "l", "\x00": "l", "\xff": "l", "xl": "xr", "xr": "xl", "xx": "xl", "l ": "ll", "l\n": "ll", " l": " r", "\x00\x00": "\x00l", "(12)": "(12l",
	} {
		if got := place.Beside(node); got != want {
			t.Errorf("Beside(%q): %q, want %q", node, got, want)
		}
	}
}

// P2, and P6 of the whole: any byte may be the last one, ahead of it any text.
func TestBesideAny(t *testing.T) {
	r := rand.New(rand.NewSource(142))
	for b := range 256 {
		ahead := make([]byte, r.Intn(12))
		r.Read(ahead)
		node, want := string(ahead)+string([]byte{byte(b)}), string(ahead)+"l"
		if b == 'l' {
			want = string(ahead) + "r"
		}
		if got := place.Beside(node); got != want {
			t.Errorf("Beside(%q): %q, want %q", node, got, want)
		}
	}
	long := strings.Repeat("l", 1<<20)
	if place.Beside(long+"l") != long+"r" || place.Beside(long+"é") != long+"\xc3l" {
		t.Error("long")
	}
}
