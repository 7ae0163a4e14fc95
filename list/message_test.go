package list_test

import (
	"math"
	"math/rand"
	"slices"
	"strings"
	"testing"

	"gemot/api"
	"gemot/list"
	"gemot/term"
)

// sample is a right message all of whose numbers are others.
func sample() list.Message {
	return list.Message{Kind: 11, Id: api.Id{Epoch: 7, Coord: 2}, Old: api.Id{Epoch: 6, Coord: 5}, Number: 9, Members: []int{1, 4, 8}, Terms: row{"g", u(3)}}
}

// changed is the sample with something changed.
func changed(f func(m *list.Message)) list.Message {
	m := sample()
	f(&m)
	return m
}

// numbers is a row's beginning as a message's: so many numbers, one behind the other.
func numbers(l ...uint64) term.Term {
	var b strings.Builder
	for _, n := range l {
		b.WriteString("p" + string(u(n)))
	}
	return term.Term(b.String())
}

func checkRight(t *testing.T, m list.Message) {
	t.Helper()
	a, e := list.Pack(m)
	if !list.Right(m) || a == "" || e != api.OK {
		t.Errorf("%v: %s %d", m, show(a), e)
	}
	if back, e := list.Unpack(a); !same(back, m) || e != api.OK {
		t.Errorf("%v was packed, %v unpacked, error %d", m, back, e)
	}
}

func checkWrong(t *testing.T, m list.Message) {
	t.Helper()
	if a, e := list.Pack(m); list.Right(m) || a != "" || e != api.ErrArg {
		t.Errorf("Kind %d Id %v Old %v Number %d Members %.20v: Right %v, %s %d", m.Kind, m.Id, m.Old, m.Number, m.Members, list.Right(m), show(a), e)
	}
}

func checkNoMessage(t *testing.T, a term.Term) {
	t.Helper()
	if m, e := list.Unpack(a); !same(m, list.Message{}) || e != api.ErrForm {
		t.Errorf("%s: %v %d", show(a), m, e)
	}
}

// L2: a message is the row of its numbers, its members and its terms, in this order.
func TestPack(t *testing.T) {
	for i, c := range []struct {
		m    list.Message
		want term.Term
	}{
		{sample(), numbers(11, 7, 2, 6, 5, 9, 3, 1, 4, 8) + "pgp" + u(3) + u(0)},
		{list.Message{}, numbers(0, 0, 0, 0, 0, 0, 0) + u(0)},
		{list.Message{Members: []int{}, Terms: row{}}, numbers(0, 0, 0, 0, 0, 0, 0) + u(0)},
		{list.Message{Kind: 20, Members: []int{1, 2, 3, 4, 5, 6, 7, 8}}, numbers(20, 0, 0, 0, 0, 0, 8, 1, 2, 3, 4, 5, 6, 7, 8) + u(0)},
		{list.Message{Id: api.Id{Epoch: 1<<31 - 1, Coord: 8}, Old: api.Id{Epoch: 1<<31 - 1, Coord: 8}, Number: 1<<31 - 1}, numbers(0, 1<<31-1, 8, 1<<31-1, 8, 1<<31-1, 0) + u(0)},
		{list.Message{Terms: row{u(1), "pgg"}}, numbers(0, 0, 0, 0, 0, 0, 0, 1) + "ppgg" + u(0)},
		{list.Message{Members: []int{1}, Terms: row{"pgg"}}, numbers(0, 0, 0, 0, 0, 0, 1, 1) + "ppgg" + u(0)},
	} {
		if a, e := list.Pack(c.m); a != c.want || e != api.OK {
			t.Errorf("%d: %s %d, want %s", i, show(a), e, show(c.want))
		}
		if m, e := list.Unpack(c.want); !same(m, c.m) || e != api.OK {
			t.Errorf("%d: %s is unpacked as %v, error %d", i, show(c.want), m, e)
		}
		checkRight(t, c.m)
	}
}

// numberFields are the numbers of a message, by what is the most that each may be, and the places where they stand.
func numberFields() []struct {
	most  int
	field func(m *list.Message) *int
} {
	const far = 1<<31 - 1
	return []struct {
		most  int
		field func(m *list.Message) *int
	}{
		{20, func(m *list.Message) *int { return &m.Kind }},
		{far, func(m *list.Message) *int { return &m.Id.Epoch }},
		{8, func(m *list.Message) *int { return &m.Id.Coord }},
		{far, func(m *list.Message) *int { return &m.Old.Epoch }},
		{8, func(m *list.Message) *int { return &m.Old.Coord }},
		{far, func(m *list.Message) *int { return &m.Number }},
	}
}

// L2: each number from 0 to its most, and none beside; told as terms, the same.
func TestNumbers(t *testing.T) {
	base := []uint64{11, 7, 2, 6, 5, 9, 2, 3, 4}
	for i, c := range numberFields() {
		for _, n := range []int{0, 1, c.most - 1, c.most} {
			checkRight(t, changed(func(m *list.Message) { *c.field(m) = n }))
		}
		for _, n := range []int{-1, -c.most, c.most + 1, 1 << 31, 1 << 32, 1<<32 + 1, 1<<33 + 3, math.MaxInt, math.MinInt, math.MinInt + 1} {
			checkWrong(t, changed(func(m *list.Message) { *c.field(m) = n }))
			told := slices.Clone(base)
			told[i] = uint64(n)
			checkNoMessage(t, numbers(told...)+"pg"+u(0))
		}
	}
	if m, e := list.Unpack(numbers(base...) + "pg" + u(0)); e != api.OK || !slices.Equal(m.Members, []int{3, 4}) || !slices.Equal(m.Terms, row{"g"}) {
		t.Error(m, e)
	}
}

// L2: members rise, 1 to 8 each.
func TestMembers(t *testing.T) {
	head := []uint64{0, 0, 0, 0, 0, 0}
	told := func(l []int) term.Term {
		all := append(slices.Clone(head), uint64(len(l)))
		for _, p := range l {
			all = append(all, uint64(p))
		}
		return numbers(all...) + u(0)
	}
	for set := range 1 << 8 {
		var l []int
		for p := 1; p <= 8; p++ {
			if set>>(p-1)&1 == 1 {
				l = append(l, p)
			}
		}
		checkRight(t, list.Message{Members: l})
		if m, e := list.Unpack(told(l)); !slices.Equal(m.Members, l) || e != api.OK {
			t.Error(l, m, e)
		}
	}
	for _, l := range [][]int{{0}, {9}, {-1}, {0, 1}, {8, 9}, {1, 1}, {2, 1}, {1, 3, 2}, {1, 2, 2}, {2, 2, 3}, {7, 8, 8}, {8, 1}, {1, 2, 3, 4, 5, 6, 7, 8, 9}, {1, 2, 3, 4, 5, 6, 7, 8, 8}, {0, 1, 2, 3, 4, 5, 6, 7, 8}, {257}, {1 << 32}, {1<<32 + 1}, {math.MaxInt}, {math.MinInt}, {1, math.MinInt}, {math.MinInt, 1}, {math.MaxInt, math.MinInt}, {1, -1}} {
		checkWrong(t, list.Message{Members: l})
		checkNoMessage(t, told(l))
	}
	checkWrong(t, list.Message{Members: make([]int, 1<<20)})
	checkWrong(t, list.Message{Members: append([]int{1, 2, 3}, slices.Repeat([]int{8}, 1<<20)...)})
}

// L2: how many members there are is a number that fits what is there.
func TestHowManyMembers(t *testing.T) {
	six := numbers(0, 0, 0, 0, 0, 0)
	for _, c := range []struct {
		a       term.Term
		members []int
		terms   row
	}{
		{six + numbers(0, 1, 2) + u(0), nil, row{u(1), u(2)}},
		{six + numbers(1, 1, 2) + u(0), []int{1}, row{u(2)}},
		{six + numbers(2, 1, 2) + u(0), []int{1, 2}, nil},
		{six + numbers(0) + u(0), nil, nil},
		{six + numbers(0) + "pg" + u(0), nil, row{"g"}},
	} {
		if m, e := list.Unpack(c.a); e != api.OK || !same(m, list.Message{Members: c.members, Terms: c.terms}) {
			t.Errorf("%s: %v %d", show(c.a), m, e)
		}
	}
	for _, many := range []uint64{3, 4, 8, 9, 256, 1 << 31, 1 << 32, 1<<32 + 2, 1<<63 - 1, 1 << 63, 1<<63 + 2, math.MaxUint64, math.MaxUint64 - 1} {
		checkNoMessage(t, six+numbers(many, 1, 2)+u(0))
		checkNoMessage(t, six+numbers(many)+u(0))
	}
	checkNoMessage(t, six+numbers(1)+"pg"+u(0))
	checkNoMessage(t, six+numbers(2, 1)+"pg"+u(0))
}

// L2: numbers are numbers: no names, no texts, nothing else.
func TestNoNumbers(t *testing.T) {
	all := []uint64{3, 7, 2, 6, 1, 5, 2, 4, 8}
	for i := range all {
		ahead, behind := numbers(all[:i]...), numbers(all[i+1:]...)+"pg"+u(0)
		if m, e := list.Unpack(ahead + "p" + u(all[i]) + behind); e != api.OK || m.Number != 5 {
			t.Fatal(m, e)
		}
		for _, other := range (row{term.Name(all[i]), "g", "t\x00\x01" + term.Term([]byte{byte(all[i])}), must(term.Private(int(all[i]))), "h" + u(all[i]), "p" + u(all[i]) + u(0), "pgg", "e\x01" + u(all[i]), "t\x00\x00"}) {
			checkNoMessage(t, ahead+"p"+other+behind)
		}
		checkNoMessage(t, ahead+u(0)) // too few of them
	}
}

// L2: ErrForm, if it is no row, or no term at all.
func TestUnpackWrong(t *testing.T) {
	a, _ := list.Pack(sample())
	for _, w := range wrongs() {
		checkNoMessage(t, w)
		checkNoMessage(t, numbers(0, 0, 0, 0, 0, 0, 0)+"p"+w+u(0)+"g")
	}
	for _, w := range (row{"g", u(0), u(1), "pg" + u(0), "pgg", "h" + a, "p" + a + u(0), a + "g", a + u(0), "g" + a, a[:len(a)-1], a[1:], a[:len(a)-9], a[:len(a)-9] + u(1), a[:len(a)-9] + "g", a[:len(a)-9] + term.Name(0), numbers(make([]uint64, 7)...), numbers(make([]uint64, 7)...) + u(1), numbers(make([]uint64, 6)...) + u(0), numbers(make([]uint64, 151)...) + u(0)}) {
		checkNoMessage(t, w)
	}
	if m, e := list.Unpack(numbers(make([]uint64, 150)...) + u(0)); e != api.OK || len(m.Terms) != 143 {
		t.Error(m, e)
	}
}

// L2: the terms must be such as can be put; a wrong one is told as any other fault is.
func TestTerms(t *testing.T) {
	for _, w := range wrongs() {
		checkWrong(t, changed(func(m *list.Message) { m.Terms = row{w} }))
		checkWrong(t, changed(func(m *list.Message) { m.Terms = row{"g", w} }))
	}
	for _, l := range []row{slices.Repeat(row{"g"}, 151), {hashes(400)}, {"g", hashes(399)}, {wide(19991)}, {wide(10000), wide(9990)}} {
		checkWrong(t, list.Message{Terms: l})
	}
	checkWrong(t, list.Message{Kind: 21, Terms: row{wide(20000)}})
}

// L2: a message may be right, and yet have no room for its numbers: then it is the error of the row.
func TestNoRoom(t *testing.T) {
	all := []int{1, 2, 3, 4, 5, 6, 7, 8}
	for i, c := range []struct {
		members []int
		terms   row
		want    api.Errno
	}{
		{nil, slices.Repeat(row{"g"}, 143), api.OK},
		{nil, slices.Repeat(row{"g"}, 144), api.ErrArg},
		{nil, slices.Repeat(row{"g"}, 150), api.ErrArg},
		{all, slices.Repeat(row{"g"}, 135), api.OK},
		{all, slices.Repeat(row{"g"}, 136), api.ErrArg},
		{nil, row{wide(20000 - 7*10 - 10)}, api.OK},
		{nil, row{wide(20000 - 7*10 - 9)}, api.ErrLong},
		{nil, row{wide(20000 - 10)}, api.ErrLong},
		{all, row{wide(20000 - 15*10 - 10)}, api.OK},
		{all, row{wide(20000 - 15*10 - 9)}, api.ErrLong},
		{nil, row{hashes(399 - 7)}, api.OK},
		{nil, row{hashes(399 - 6)}, api.ErrDeep},
		{nil, row{hashes(399)}, api.ErrDeep},
		{all, row{"g", hashes(399 - 16)}, api.OK},
		{all, row{"g", hashes(399 - 15)}, api.ErrDeep},
		{nil, row{wide(20000 - 7*10 - 10 - 394), hashes(399 - 6)}, api.ErrDeep},
		{nil, row{wide(20000 - 7*10 - 10 - 393), hashes(399 - 6)}, api.ErrLong},
		{nil, append(slices.Repeat(row{wide(103)}, 149), hashes(250)), api.ErrArg},
	} {
		m := list.Message{Members: c.members, Terms: c.terms}
		a, e := list.Pack(m)
		if !list.Right(m) || e != c.want || (a != "") != (e == api.OK) {
			t.Errorf("%d: Right %v, %s %d", i, list.Right(m), show(a), e)
		}
		if c.want == api.OK {
			checkRight(t, m)
		}
	}
}

// L3: what was packed is unpacked; what is unpacked, packed again, is the same term; whatever byte is turned, lost or doubled.
func TestMessagesByChance(t *testing.T) {
	r := rand.New(rand.NewSource(8))
	read := 0
	for range 1500 {
		m := someMessage(r)
		checkRight(t, m)
		a, _ := list.Pack(m)
		for range 20 {
			i := r.Intn(len(a))
			turned := term.Term([]byte{"ghpnu\x00\x01\x02\x08\x09\x14\x15\x80\xff"[r.Intn(14)]})
			for _, b := range (row{a[:i] + turned + a[i+1:], a[:i] + a[i+1:], a[:i] + a[i:i+1] + a[i:]}) {
				back, e := list.Unpack(b)
				if e == api.OK {
					read++
					if again, e := list.Pack(back); again != b || e != api.OK {
						t.Fatalf("%s is unpacked as %v, which is %s, error %d", show(b), back, show(again), e)
					}
				} else if e != api.ErrForm || !same(back, list.Message{}) {
					t.Fatalf("%s: %v %d", show(b), back, e)
				}
			}
		}
	}
	if read < 1000 {
		t.Error("too few were messages yet", read)
	}
}

// L3: messages that are unlike are unlike terms: members, and terms that are numbers, among them.
func TestUnlikeMessages(t *testing.T) {
	seen := map[term.Term]list.Message{}
	look := func(m list.Message) {
		a, e := list.Pack(m)
		if other, there := seen[a]; there || e != api.OK {
			t.Fatalf("%v and %v are both %s, error %d", m, other, show(a), e)
		}
		seen[a] = m
	}
	for n := range 1 << 6 {
		for _, members := range [][]int{nil, {1}, {2}, {1, 2}} {
			for _, terms := range []row{nil, {u(0)}, {u(1)}, {u(2)}, {u(1), u(2)}, {"p" + u(1) + u(0)}, {term.Name(1)}} {
				look(list.Message{Kind: n & 1, Id: api.Id{Epoch: n >> 1 & 1, Coord: n >> 2 & 1}, Old: api.Id{Epoch: n >> 3 & 1, Coord: n >> 4 & 1}, Number: n >> 5 & 1, Members: members, Terms: terms})
			}
		}
	}
}

// The rules that hold everywhere (P3, P4): what is handed in stays, and is not kept; lists are new; the same is told each time.
func TestMessagesAreNew(t *testing.T) {
	members, terms := []int{1, 2, 77, 77}, row{"g", "hg", "q", "q"}
	m := list.Message{Members: members[:2], Terms: terms[:2]}
	a, e := list.Pack(m)
	if e != api.OK || !list.Right(m) || !slices.Equal(members, []int{1, 2, 77, 77}) || !slices.Equal(terms, row{"g", "hg", "q", "q"}) {
		t.Error(members, show(terms...), e)
	}
	members[0], terms[0] = 9, "q"
	first, _ := list.Unpack(a)
	want := list.Message{Members: []int{1, 2}, Terms: row{"g", "hg"}}
	if !same(first, want) {
		t.Error(first)
	}
	first.Members[0], first.Terms[0] = 9, "q"
	first.Members, first.Terms = append(first.Members, 9), append(first.Terms, "q")
	if again, e := list.Unpack(a); !same(again, want) || e != api.OK {
		t.Error(again, e)
	}
}
