package blind_test

import (
	"math"
	"math/rand"
	"slices"
	"strconv"
	"strings"
	"testing"

	"gemot/api"
	"gemot/blind"
	"gemot/parts"
	"gemot/term"
	"gemot/tree"
)

// x, y, z and w are names, by which the tables are written.
const (
	x = term.Term("n\x00\x00\x00\x00\x00\x00\x00\x01")
	y = term.Term("n\x00\x00\x00\x00\x00\x00\x00\x02")
	z = term.Term("n\x00\x00\x00\x00\x00\x00\x00\x03")
	w = term.Term("n\x00\x00\x00\x00\x00\x00\x00\x04")
)

type row = []term.Term

// model is a tree that is put together from below, and never read out of a text: of a process, or of two others.
type model struct {
	text        tree.Tree
	procs       []int
	left, right *model
}

func leaf(p int) *model { return &model{text: tree.Tree(strconv.Itoa(p)), procs: []int{p}} }

func both(left, right *model) *model {
	procs := slices.Concat(left.procs, right.procs)
	slices.Sort(procs)
	return &model{"(" + left.text + right.text + ")", procs, left, right}
}

// each tells every node of a model, those below a node ahead of it.
func (m *model) each(node string, tell func(node string, m *model)) {
	if m.left != nil {
		m.left.each(node+"l", tell)
		m.right.each(node+"r", tell)
	}
	tell(node, m)
}

// own is a table of whose each of the secrets is, if the members have them in order.
func (m *model) own(secrets row) map[int]term.Term {
	table := map[int]term.Term{}
	for i, p := range m.procs {
		table[p] = secrets[i]
	}
	return table
}

// root says B3 again, byte by byte.
func (m *model) root(own map[int]term.Term) (term.Term, api.Errno) {
	if m.left == nil {
		return own[m.procs[0]], api.OK
	}
	left, e := m.left.root(own)
	if e != api.OK {
		return "", e
	}
	right, e := m.right.root(own)
	if e != api.OK {
		return "", e
	}
	if e := fault(2, left); e != api.OK {
		return "", e
	}
	return plainAbove(right, "e\x01"+left)
}

// climb says B2 again, from the root down: the secrets of a path as far as below this node, and then its own, if that can be told.
func (m *model) climb(node string, p int, secret term.Term, l []blind.Blind) (secrets row, whole bool) {
	if !slices.Contains(m.procs, p) {
		return nil, false
	}
	if m.left == nil {
		return row{secret}, true
	}
	beside := node + "r"
	secrets, whole = m.left.climb(node+"l", p, secret, l)
	if len(secrets) == 0 {
		beside = node + "l"
		secrets, whole = m.right.climb(node+"r", p, secret, l)
	}
	for _, b := range l {
		if whole && b.Node == beside {
			above, e := plainAbove(secrets[len(secrets)-1], b.Element)
			if e != api.OK {
				return secrets, false
			}
			return append(secrets, above), true
		}
	}
	return secrets, false
}

// blinds are those of all nodes, the root's as the last one.
func (m *model) blinds(own map[int]term.Term) []blind.Blind {
	var l []blind.Blind
	m.each("", func(node string, below *model) {
		if secret, e := below.root(own); e == api.OK {
			l = append(l, blind.Blind{Node: node, Element: "e\x01" + secret})
		}
	})
	return l
}

// fault is what keeps parts that have so many bytes ahead of them from being a term.
func fault(ahead int, l ...term.Term) api.Errno {
	size, depth := ahead, 1
	for _, part := range l {
		if !term.Right(part) {
			return api.ErrArg
		}
		size, depth = size+len(part), max(depth, 1+term.Depth(part))
	}
	if size > 20000 {
		return api.ErrLong
	}
	if depth > 400 {
		return api.ErrDeep
	}
	return api.OK
}

// plainAbove spells the key of an element with one exponent more.
func plainAbove(secret, beside term.Term) (term.Term, api.Errno) {
	if !term.Right(secret) || !term.Right(beside) || beside[0] != 'g' && beside[0] != 'e' {
		return "", api.ErrArg
	}
	exponents := append(slices.Clone(parts.Of(beside)), secret)
	if len(exponents) > 32 {
		return "", api.ErrLong
	}
	if e := fault(2, exponents...); e != api.OK {
		return "", e
	}
	slices.Sort(exponents)
	power := "e" + term.Term([]byte{byte(len(exponents))})
	for _, exponent := range exponents {
		power += exponent
	}
	if e := fault(1, power); e != api.OK {
		return "", e
	}
	return "k" + power, api.OK
}

// models are all trees that there are of these processes, in each order that they can stand in.
func models(procs ...int) []*model {
	if len(procs) == 1 {
		return []*model{leaf(procs[0])}
	}
	var all []*model
	for set := 1; set < 1<<len(procs)-1; set++ {
		var halves [2][]int
		for i, p := range procs {
			halves[set>>i&1] = append(halves[set>>i&1], p)
		}
		for _, left := range models(halves[0]...) {
			for _, right := range models(halves[1]...) {
				all = append(all, both(left, right))
			}
		}
	}
	return all
}

// many are trees of each size: all of few processes, some of more, and the deepest ones.
func many(r *rand.Rand) []*model {
	all := slices.Concat(models(1), models(8), models(1, 8), models(2, 5, 7), models(1, 4, 6, 8))
	for range 300 {
		var rest []*model
		for _, p := range r.Perm(8)[:1+r.Intn(8)] {
			rest = append(rest, leaf(p+1))
		}
		for len(rest) > 1 {
			i := r.Intn(len(rest) - 1)
			rest = slices.Replace(rest, i, i+2, both(rest[i], rest[i+1]))
		}
		all = append(all, rest[0])
	}
	toLeft, toRight := leaf(8), leaf(1)
	for p := 7; p >= 1; p-- {
		toLeft, toRight = both(toLeft, leaf(p)), both(leaf(9-p), toRight)
	}
	return append(all, toLeft, toRight)
}

// hashes is g behind so many h: a term of that depth.
func hashes(depth int) term.Term { return term.Term(strings.Repeat("h", depth-1) + "g") }

// wide is a term of just that many bytes (at least 3) that is shallow: halves in pairs.
func wide(size int) term.Term {
	if size <= api.MaxText+3 {
		return term.Term("t\x00" + string(rune(size-3)) + strings.Repeat("w", size-3))
	}
	left := (size - 1) / 2
	return "p" + wide(left) + wide(size-1-left)
}

// power is g with so many exponents.
func power(many int) term.Term {
	return "e" + term.Term([]byte{byte(many)}) + term.Term(strings.Repeat(string(y), many))
}

// wrongTerms are texts that are no right terms.
func wrongTerms() row {
	return row{
		"", " ", "q", "\x00", "gg", " g", x[:8], x + "g", "t\x00\x01", "i\x00", "i\x09", "e", "e\x00", "e\x01", "e\x01" + x + y, "e\x02" + x, "e\x02" + y + x,
		power(33), "k", "k" + x, "hq", "pg", "pgq", "sgg", "xi\x01", hashes(401), "e\x01" + hashes(400), wide(20001), "e\x01" + wide(19999),
		term.Term(strings.Repeat("h", 1<<18)), term.Term(strings.Repeat("e\x01", 1<<18)), wide(1 << 18),
	}
}

// oddTerms are right ones, and those at the bounds of what can be made of them.
func oddTerms() row {
	both := "p" + hashes(397) + wide(19590)
	l := row{x, y, z, "g", "hg", "kg", "t\x00\x00", "i\x01", "e\x01" + x, "e\x02" + x + y, "e\x03" + x + x + y, power(30), power(31), power(32), both, "h" + both, "hh" + both}
	for depth := 394; depth <= 400; depth++ {
		l = append(l, hashes(depth), "e\x01"+hashes(depth-1), "p"+wide(10000)+hashes(depth-1))
	}
	for _, size := range []int{9995, 9999, 10000, 19985, 19986, 19987, 19988, 19989, 19990, 19991, 19994, 19996, 19997, 19998, 19999, 20000} {
		l = append(l, wide(size), "e\x01"+wide(size-2), "h"+wide(size-1))
	}
	return l
}

// wrongTrees are texts that are no trees.
func wrongTrees() []tree.Tree {
	l := []tree.Tree{"", " ", "0", "9", "x", "(", ")", "()", "(1", "1)", "(1)", "12", "1 ", "(1 2)", "(12", "12)", "(12))", "((12)", "(12)3", "(12)(34)", "(123)", "((12))", "(10)", "(19)", "11", "(11)", "((12)1)", "\x01", "(\x01\x02)"}
	for _, s := range []string{"(", ")", "1", "(1", "12)"} {
		l = append(l, tree.Tree(strings.Repeat(s, 1<<18)))
	}
	const deep = 1 << 16
	return append(l, tree.Tree(strings.Repeat("(", deep)+"1"+strings.Repeat("2)", deep)))
}

// edges are numbers at the bounds of processes and ints, and some that a smaller int, or a digit, would hold as others.
func edges() []int {
	return []int{0, 9, 10, '1', '8', '(', -1, -8, 1 - '0', 256 + 1, 1<<32 + 1, math.MaxInt, math.MinInt, math.MinInt + 1}
}

// names are secrets that stand nowhere else.
func names(many int) row {
	l := make(row, many)
	for i := range l {
		l[i] = term.Name(uint64(1000 + i))
	}
	return l
}

// short is the beginning of a text, for what is told of it.
func short[S ~string](s S) string {
	return strconv.Quote(string(s[:min(len(s), 40)])) + " of " + strconv.Itoa(len(s))
}

func shorts(l row) string {
	var b strings.Builder
	for _, s := range l {
		b.WriteString(short(s) + "; ")
	}
	return b.String()
}

func checkTerm(t *testing.T, call string, got term.Term, e api.Errno, want term.Term, wantErr api.Errno) {
	t.Helper()
	if got != want || e != wantErr {
		t.Fatalf("%s: %s %d, want %s %d", call, short(got), e, short(want), wantErr)
	}
}

func checkAbove(t *testing.T, secret, beside, want term.Term, wantErr api.Errno) {
	t.Helper()
	got, e := blind.Above(secret, beside)
	checkTerm(t, "Above("+short(secret)+", "+short(beside)+")", got, e, want, wantErr)
}

func checkRoot(t *testing.T, text tree.Tree, secrets row, want term.Term, wantErr api.Errno) {
	t.Helper()
	got, e := blind.Root(text, secrets)
	checkTerm(t, "Root("+short(text)+", "+shorts(secrets)+")", got, e, want, wantErr)
}

func checkClimb(t *testing.T, text tree.Tree, p int, secret term.Term, l []blind.Blind, want row) {
	t.Helper()
	if got := blind.Climb(text, p, secret, l); !slices.Equal(got, want) {
		t.Fatalf("Climb(%s, %d, %s, %.200q): %s, want %s", short(text), p, short(secret), l, shorts(got), shorts(want))
	}
}
