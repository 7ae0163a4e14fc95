package place_test

import (
	"cmp"
	"math"
	"math/rand"
	"slices"
	"strconv"
	"strings"
	"testing"

	"gemot/api"
	"gemot/place"
	"gemot/tree"
)

// model is a tree as a table of all its nodes, and of what stands at each. It is put together from below, and never read out of a text.
type model map[string]tree.Tree

func leaf(p int) model { return model{"": tree.Tree(strconv.Itoa(p))} }

func both(left, right model) model {
	m := model{"": "(" + left[""] + right[""] + ")"}
	for node, x := range left {
		m["l"+node] = x
	}
	for node, x := range right {
		m["r"+node] = x
	}
	return m
}

func (m model) text() tree.Tree { return m[""] }

func (m model) nodes() []string {
	var l []string
	for node := range m {
		l = append(l, node)
	}
	slices.SortFunc(l, func(a, b string) int {
		return cmp.Or(cmp.Compare(len(a), len(b)), strings.Compare(a, b))
	})
	return l
}

// below tells whether a process stands at a node, or anywhere below it.
func (m model) below(node string, p int) bool {
	return p >= 1 && p <= 8 && strings.Contains(string(m[node]), strconv.Itoa(p))
}

func (m model) path(p int) []string {
	l := slices.DeleteFunc(m.nodes(), func(node string) bool { return !m.below(node, p) })
	slices.Reverse(l)
	return l
}

func (m model) co(p int) []string {
	var l []string
	for _, node := range m.path(p) {
		for other := range m {
			if other != node && len(other) == len(node) && strings.HasPrefix(other, node[:len(node)-1]) {
				l = append(l, other)
			}
		}
	}
	return l
}

func (m model) sponsor(node string) int {
	for p := 1; p <= 8; p++ {
		if m.below(node, p) {
			return p
		}
	}
	return 0
}

func (m model) duties(p int) []string {
	return slices.DeleteFunc(m.path(p), func(node string) bool { return node == "" || m.sponsor(node) != p })
}

// models are all trees that there are of these processes, in each order that they can stand in.
func models(procs []int) []model {
	if len(procs) == 1 {
		return []model{leaf(procs[0])}
	}
	var all []model
	for set := 1; set < 1<<len(procs)-1; set++ {
		var left, right []int
		for i, p := range procs {
			if set>>i&1 == 1 {
				left = append(left, p)
			} else {
				right = append(right, p)
			}
		}
		for _, a := range models(left) {
			for _, b := range models(right) {
				all = append(all, both(a, b))
			}
		}
	}
	return all
}

// some is a tree of so many processes, by chance that is the same each time.
func some(r *rand.Rand, many int) model {
	var rest []model
	for _, p := range r.Perm(8)[:many] {
		rest = append(rest, leaf(p+1))
	}
	for len(rest) > 1 {
		i := r.Intn(len(rest) - 1)
		rest = slices.Replace(rest, i, i+2, both(rest[i], rest[i+1]))
	}
	return rest[0]
}

// many are trees of each size: all of few processes, some of more, and the deepest and the widest ones.
func many() []model {
	var all []model
	for _, procs := range [][]int{{1}, {8}, {1, 8}, {2, 5, 7}, {1, 4, 6, 8}, {2, 3, 5, 7, 8}} {
		all = append(all, models(procs)...)
	}
	r := rand.New(rand.NewSource(14))
	for range 400 {
		all = append(all, some(r, 1+r.Intn(8)))
	}
	toLeft, toRight, wide := leaf(8), leaf(1), leaf(4)
	for p := 7; p >= 1; p-- {
		toLeft = both(toLeft, leaf(p))
		toRight = both(leaf(9-p), toRight)
	}
	wide = both(both(both(leaf(6), wide), both(leaf(8), leaf(2))), both(both(leaf(3), leaf(7)), both(leaf(1), leaf(5))))
	return append(all, toLeft, toRight, wide)
}

// wrongs are texts that are no trees.
func wrongs() []tree.Tree {
	l := []tree.Tree{
		"", " ", "0", "9", "x", "(", ")", "()", "(1", "1)", "(1)", "((1))", "12", "1 ", " 1", "(1 2)", "(12", "12)", "(12))", "((12)", "(12)3", "3(12)", "(12)(34)",
		"(123)", "((12))", "((12)(34)", "((12)(34)5)", ")12(", "[12]", "(10)", "(19)", "11", "(11)", "((12)1)", "((12)(32))", "((12)\x00)", "\x01", "(\x01\x02)", "(1２)",
		"((((12)(34))((56)(78)))9)", "((((12)(34))((56)(78)))1)", "(((12)(34))((56)(77)))", "12345678", "((((((((((((((((((((((", "))))))))))))))))))))))",
	}
	for _, s := range []string{"(", ")", "1", "(1", "12)", "l", "\x00"} {
		l = append(l, tree.Tree(strings.Repeat(s, 1<<18)))
	}
	const deep = 1 << 16
	return append(l, tree.Tree(strings.Repeat("(", deep)+"1"+strings.Repeat("2)", deep)), tree.Tree("(12)"+strings.Repeat(" ", 1<<18)))
}

// edges are numbers at the bounds of processes and ints, and some that a smaller int, or a digit, would hold as others.
func edges() []int {
	return []int{0, 9, 10, 12, 18, '1', '8', '(', -1, -8, 1 - '0', 256 + 1, 1<<32 + 1, math.MaxInt, math.MinInt, math.MinInt + 1}
}

// oddNodes are texts that are nodes of no tree, whatever the tree is.
func oddNodes() []string {
	l := []string{"x", "L", "R", "lx", "xl", "l ", " l", " ", "\x00", "l\x00", "lr\n", "1", "(", "()", "(12)", "ł", "l\xff", "llllllll", "rrrrrrrr", "lrlrlrlr"}
	return append(l, strings.Repeat("l", 1<<18), strings.Repeat("r", 1<<18), strings.Repeat("\x00", 1<<18))
}

// short is the beginning of a text, for what is told of it.
func short[S ~string](s S) string { return strconv.Quote(string(s[:min(len(s), 60)])) }

func checkList(t *testing.T, call string, got, want []string) {
	t.Helper()
	if !slices.Equal(got, want) {
		t.Fatalf("%s: %q, want %q", call, got, want)
	}
}

func checkAt(t *testing.T, x tree.Tree, node string, want tree.Tree, wantErr api.Errno) {
	t.Helper()
	if got, e := place.At(x, node); got != want || e != wantErr {
		t.Fatalf("At(%s, %s): %q %d, want %q %d", short(x), short(node), got, e, want, wantErr)
	}
}

func checkSponsor(t *testing.T, x tree.Tree, node string, want int) {
	t.Helper()
	if got := place.Sponsor(x, node); got != want {
		t.Fatalf("Sponsor(%s, %s): %d, want %d", short(x), short(node), got, want)
	}
}
