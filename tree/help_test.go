package tree_test

import (
	"math"
	"math/rand"
	"slices"
	"strconv"
	"strings"
	"testing"

	"gemot/api"
	"gemot/tree"
)

// edges are numbers at the bounds of processes and ints, and some that a smaller int, or a digit, would hold as others.
func edges() []int {
	return []int{0, 1, 2, 7, 8, 9, 10, 12, 18, '1', '8', -1, -8, 1 - '0', 255, 256 + 1, 256 + '1', 1<<32 + 1, -1 << 32, 1<<63 - 1, math.MinInt, math.MinInt + 1}
}

// wrongs are texts that are no trees.
func wrongs() []tree.Tree {
	l := []tree.Tree{
		"", " ", "0", "9", "a", "(", ")", "()", "(1", "1)", "(1)", "((1))", "12", "1 ", " 1", "(1 2)", "( 12)", "(12) ", "(12", "12)", "(12))", "((12)", "(12)3", "3(12)",
		"(123)", "(1(2))", "((12))", "(1())", "()(12)", "(12)(34)", "((12)(34)", "((12)(34)5)", "(12)(", "(12))(", ")12(", ")(12)(", "[12]", "[12)", "(12]", "{12}", "\x0012)", "(1,2)", "(10)", "(19)", "(01)", "(-12)",
		"11", "(11)", "((12)1)", "(1(21))", "((12)(31))", "\x00", "1\x00", "\x001", "(12)\x00", "\x01", "(\x01\x02)", "(1\xb2)", "\xb1", "1\n", "(1²)", "①", "(1２)",
		"(((12)(34))((56)(78))", "(((12)(34))((56)(78))))", "((((12)(34))((56)(78)))9)", "((((12)(34))((56)(78)))1)", "(((12)(34))((56)(71)))", "(((12)(34))((56)78))", "12345678", "(12345678)",
		"1111111111111111111111", "((((((((((((((((((((((", "))))))))))))))))))))))",
	}
	for _, s := range []string{"(", ")", "1", "()", "(1", "12)", " ", "\x00"} {
		l = append(l, tree.Tree(strings.Repeat(s, 1<<20)))
	}
	const deep = 1 << 16
	l = append(l, tree.Tree(strings.Repeat("(", deep)+"1"+strings.Repeat("2)", deep)), tree.Tree(strings.Repeat("(1", deep)+"2"+strings.Repeat(")", deep)))
	return append(l, tree.Tree("(12)"+strings.Repeat(" ", 1<<20)), tree.Tree(strings.Repeat("(", 1<<20)+"12)"))
}

// short is the beginning of a text, for what is told of it.
func short(t tree.Tree) string { return strconv.Quote(string(t[:min(len(t), 80)])) }

// plainRight puts one stroke for each process, and then one for each two in brackets, until there is no more to put.
func plainRight(t tree.Tree) bool {
	s := string(t)
	for p := 1; p <= 8; p++ {
		s = strings.Replace(s, strconv.Itoa(p), "|", 1)
	}
	if strings.Trim(s, "()|") != "" {
		return false
	}
	for strings.Contains(s, "(||)") {
		s = strings.ReplaceAll(s, "(||)", "|")
	}
	return s == "|"
}

func plainMembers(t tree.Tree) []int {
	var l []int
	for p := 1; p <= 8; p++ {
		if strings.Contains(string(t), strconv.Itoa(p)) {
			l = append(l, p)
		}
	}
	return l
}

// plainDepth is how many brackets are open at the most.
func plainDepth(t tree.Tree) int {
	open, most := 0, 0
	for _, c := range string(t) {
		switch c {
		case '(':
			open++
		case ')':
			open--
		}
		most = max(most, open)
	}
	return most
}

// span is where a tree stands in another one.
type span struct{ from, to int }

func spans(t tree.Tree) []span {
	var l []span
	for i := range len(t) {
		for j := i + 1; j <= len(t); j++ {
			if plainRight(t[i:j]) {
				l = append(l, span{i, j})
			}
		}
	}
	return l
}

// plainPlace asks of each tree whether it is full (as many leaves as its depth has room for), and within no other full one.
func plainPlace(t tree.Tree) span {
	full := slices.DeleteFunc(spans(t), func(s span) bool {
		sub := t[s.from:s.to]
		return len(plainMembers(sub)) != 1<<plainDepth(sub)
	})
	var free []span
	for _, s := range full {
		if !slices.ContainsFunc(full, func(o span) bool { return o != s && o.from <= s.from && s.to <= o.to }) {
			free = append(free, s)
		}
	}
	best := free[0]
	for _, s := range free {
		if plainDepth(t[s.from:s.to]) <= plainDepth(t[best.from:best.to]) {
			best = s
		}
	}
	return best
}

func plainJoin(t tree.Tree, p int) (tree.Tree, api.Errno) {
	if !plainRight(t) || p < 1 || p > 8 || slices.Contains(plainMembers(t), p) {
		return "", api.ErrArg
	}
	s := plainPlace(t)
	return t[:s.from] + "(" + t[s.from:s.to] + tree.Tree(strconv.Itoa(p)) + ")" + t[s.to:], api.OK
}

func plainLeave(t tree.Tree, p int) (tree.Tree, api.Errno) {
	if !plainRight(t) {
		return "", api.ErrArg
	}
	one := tree.Tree(strconv.Itoa(p))
	if !slices.Contains(plainMembers(t), p) || t == one {
		return "", api.ErrNone
	}
	for _, both := range spans(t) {
		for cut := both.from + 2; cut < both.to-1; cut++ {
			left, right := t[both.from+1:cut], t[cut:both.to-1]
			if left == one && plainRight(right) {
				return t[:both.from] + right + t[both.to:], api.OK
			}
			if right == one && plainRight(left) {
				return t[:both.from] + left + t[both.to:], api.OK
			}
		}
	}
	return "no place", -1
}

func plainMerge(a, b tree.Tree) (tree.Tree, api.Errno) {
	if !plainRight(a) || !plainRight(b) || strings.ContainsAny(string(a), strings.NewReplacer("(", "", ")", "").Replace(string(b))) {
		return "", api.ErrArg
	}
	rank := func(t tree.Tree) []int {
		l := plainMembers(t)
		return []int{plainDepth(t), len(l), -l[0]}
	}
	if slices.Compare(rank(a), rank(b)) > 0 {
		return "(" + a + b + ")", api.OK
	}
	return "(" + b + a + ")", api.OK
}

// rows are all that are: each set of the processes, but that of nobody.
func rows() [][]int {
	var all [][]int
	for set := 1; set < 256; set++ {
		var l []int
		for p := 1; p <= 8; p++ {
			if set>>(p-1)&1 == 1 {
				l = append(l, p)
			}
		}
		all = append(all, l)
	}
	return all
}

// trees are all that there are of these processes, in each order that they can stand in.
func trees(procs []int) []tree.Tree {
	if len(procs) == 1 {
		return []tree.Tree{tree.Tree(strconv.Itoa(procs[0]))}
	}
	var all []tree.Tree
	for set := 1; set < 1<<len(procs)-1; set++ {
		var left, right []int
		for i, p := range procs {
			if set>>i&1 == 1 {
				left = append(left, p)
			} else {
				right = append(right, p)
			}
		}
		for _, a := range trees(left) {
			for _, b := range trees(right) {
				all = append(all, "("+a+b+")")
			}
		}
	}
	return all
}

// few are all trees of some of the processes 2, 4, 5, 7, 8.
func few() []tree.Tree {
	var all []tree.Tree
	of := []int{2, 4, 5, 7, 8}
	for set := 1; set < 1<<len(of); set++ {
		var l []int
		for i, p := range of {
			if set>>i&1 == 1 {
				l = append(l, p)
			}
		}
		all = append(all, trees(l)...)
	}
	return all
}

// some is a tree of so many processes, by chance that is the same each time.
func some(r *rand.Rand, many int) tree.Tree {
	var grow func(procs []int) tree.Tree
	grow = func(procs []int) tree.Tree {
		if len(procs) == 1 {
			return tree.Tree(strconv.Itoa(procs[0]))
		}
		cut := 1 + r.Intn(len(procs)-1)
		return "(" + grow(procs[:cut]) + grow(procs[cut:]) + ")"
	}
	procs := r.Perm(8)
	for i := range procs {
		procs[i]++
	}
	return grow(procs[:many])
}

// checkText holds all that is told of one text against the plain words.
func checkText(t *testing.T, text tree.Tree) {
	t.Helper()
	right, members, depth := plainRight(text), []int(nil), -1
	if right {
		members, depth = plainMembers(text), plainDepth(text)
	}
	if tree.Right(text) != right || !slices.Equal(tree.Members(text), members) || tree.Depth(text) != depth {
		t.Fatalf("%s: Right %v, Members %v, Depth %d, want %v, %v, %d", short(text), tree.Right(text), tree.Members(text), tree.Depth(text), right, members, depth)
	}
}

func checkJoin(t *testing.T, text tree.Tree, p int) {
	t.Helper()
	want, wantErr := plainJoin(text, p)
	if got, e := tree.Join(text, p); got != want || e != wantErr {
		t.Fatalf("Join(%s, %d): %q %d, want %q %d", short(text), p, got, e, want, wantErr)
	}
}

func checkLeave(t *testing.T, text tree.Tree, p int) {
	t.Helper()
	want, wantErr := plainLeave(text, p)
	if got, e := tree.Leave(text, p); got != want || e != wantErr {
		t.Fatalf("Leave(%s, %d): %q %d, want %q %d", short(text), p, got, e, want, wantErr)
	}
}

func checkMerge(t *testing.T, a, b tree.Tree) {
	t.Helper()
	want, wantErr := plainMerge(a, b)
	if got, e := tree.Merge(a, b); got != want || e != wantErr {
		t.Fatalf("Merge(%s, %s): %q %d, want %q %d", short(a), short(b), got, e, want, wantErr)
	}
}

// checkBuild holds what is built against the leaf of the first one that the others join.
func checkBuild(t *testing.T, l []int) {
	t.Helper()
	want, wantErr := tree.Tree(""), api.ErrArg
	if slices.ContainsFunc(rows(), func(r []int) bool { return slices.Equal(r, l) }) {
		want, wantErr = tree.Tree(strconv.Itoa(l[0])), api.OK
		for _, p := range l[1:] {
			want, _ = plainJoin(want, p)
		}
	}
	if got, e := tree.Build(l); got != want || e != wantErr {
		t.Fatalf("Build(%v): %q %d, want %q %d", l, got, e, want, wantErr)
	}
}
