package member_test

import (
	"slices"
	"testing"

	"gemot/list"
	"gemot/member"
)

// all are a message to each of these.
func all(m list.Message, to ...int) []member.Out {
	var l []member.Out
	for _, p := range to {
		l = append(l, out(p, m))
	}
	return l
}

// M2: nothing, if the members are no row, or me is not the first one of them.
func TestSuggestWrong(t *testing.T) {
	for _, l := range [][]int{nil, {}, {0}, {0, 2}, {-1, 2}, {2, 2}, {2, 1}, {3, 2}, {2, 4, 3}, {2, 9}, {2, 3, 4, 5, 6, 7, 8, 9}, {1, 2}, {1, 2, 3}, {1}, {3}, {3, 4}, {9}, {2, 1 << 32}, make([]int, 1<<18), slices.Repeat([]int{2}, 1<<18)} {
		n := begin(t, 2)
		n.Heed(id(7, 7)) // something is to be suggested, else
		suggest(t, n, l, nil, nil)
		is(t, n, state{view: of(0, 2, 2), promised: id(0, 2)})
		suggest(t, n, []int{2, 3}, all(propose(id(8, 2), 2, 3), 3), nil)
	}
}

// M2: a Propose to each other member, in order; it is seen, and promised.
func TestSuggest(t *testing.T) {
	for _, l := range [][]int{{1, 2}, {1, 8}, {1, 2, 3}, {1, 2, 3, 4, 5, 6, 7, 8}, {1, 5, 7}} {
		n := begin(t, 1)
		suggest(t, n, l, all(propose(id(1, 1), l...), l[1:]...), nil)
		is(t, n, state{of(0, 1, 1), id(1, 1), true, nil})
		n.Heed(id(1, 2))
		suggest(t, n, l, all(propose(id(2, 1), l...), l[1:]...), nil)
		is(t, n, state{of(0, 1, 1), id(2, 1), true, nil})
	}
	n := begin(t, 8)
	n.Heed(id(5, 1))
	suggest(t, n, []int{8}, nil, []member.Event{enter(of(6, 8, 8))})
}

// M2: the next id is of the seen one, not of the promised one.
func TestSuggestSeen(t *testing.T) {
	n := begin(t, 1)
	n.Take(2, propose(id(4, 2), 1, 2))
	suggest(t, n, []int{1, 2}, all(propose(id(5, 1), 1, 2), 2), nil)
	n.Heed(id(9, 9))
	n.Take(2, propose(id(6, 2), 1, 2)) // above the promised one, below the seen one
	if n.Promised() != id(6, 2) {
		t.Error(n.Promised())
	}
	suggest(t, n, []int{1}, nil, []member.Event{enter(of(10, 1, 1))})
}

// M2: nothing, if it has a plan of these members, and nothing above it was seen.
func TestSuggestPlanned(t *testing.T) {
	n := begin(t, 1)
	suggest(t, n, []int{1, 2}, all(propose(id(1, 1), 1, 2), 2), nil)
	suggest(t, n, []int{1, 2}, nil, nil)
	n.Heed(id(1, 1))
	suggest(t, n, []int{1, 2}, nil, nil)
	suggest(t, n, []int{1, 3}, all(propose(id(2, 1), 1, 3), 3), nil)
	suggest(t, n, []int{1, 2}, all(propose(id(3, 1), 1, 2), 2), nil)
	suggest(t, n, []int{1, 2, 3}, all(propose(id(4, 1), 1, 2, 3), 2, 3), nil)
	// Those of its view, too, while it has a plan of others.
	suggest(t, n, []int{1}, nil, []member.Event{enter(of(5, 1, 1))})
	n.Suggest([]int{1, 2})
	n.Heed(id(6, 2))
	suggest(t, n, []int{1, 2}, all(propose(id(7, 1), 1, 2), 2), nil)
}

// M2: nothing, if it has no plan, is not flushing, and these are its view's members, and nothing above it was seen.
func TestSuggestSame(t *testing.T) {
	n := inView(t, 1, 3, 1, 2)
	suggest(t, n, []int{1, 2}, nil, nil)
	suggest(t, n, []int{1, 2, 3}, all(propose(id(4, 1), 1, 2, 3), 2, 3), nil)
	n = inView(t, 1, 3, 1, 2)
	suggest(t, n, []int{1}, nil, []member.Event{enter(of(4, 1, 1))})
	suggest(t, n, []int{1}, nil, nil)
	n = inView(t, 1, 3, 1, 2)
	n.Heed(id(3, 3))
	suggest(t, n, []int{1, 2}, all(propose(id(4, 1), 1, 2), 2), nil)
}

// M2: flushing without a plan, it suggests whatever members: those of its view, and those of the promised one.
func TestSuggestFlushing(t *testing.T) {
	for _, l := range [][]int{{1, 2}, {1, 3}, {1, 2, 3}} {
		n := inView(t, 1, 3, 1, 2)
		n.Take(3, propose(id(5, 3), 1, 3))
		suggest(t, n, l, all(propose(id(6, 1), l...), l[1:]...), nil)
	}
}

// M2: nothing, if the seen id has an Epoch of 2^31 - 2 or more.
func TestSuggestAtTheEnd(t *testing.T) {
	n := begin(t, 1)
	n.Heed(id(top-2, 3))
	suggest(t, n, []int{1, 2}, all(propose(id(top-1, 1), 1, 2), 2), nil)
	suggest(t, n, []int{1}, nil, nil)
	suggest(t, n, []int{1, 3}, nil, nil)
	is(t, n, state{of(0, 1, 1), id(top-1, 1), true, nil})
	take(t, n, 2, tell(id(top-1, 1), id(0, 2)), all(install(id(top-1, 1), []int{1, 2}), 2), []member.Event{enter(of(top-1, 1, 1, 2))})
	suggest(t, n, []int{1}, nil, nil)
	n = begin(t, 1)
	n.Heed(id(top-1, 0))
	suggest(t, n, []int{1}, nil, nil)
	is(t, n, state{view: of(0, 1, 1), promised: id(0, 1)})
}

// M2, M4: one alone finishes at once, with the logs of its own view: nothing of it is told again.
func TestSuggestAlone(t *testing.T) {
	n := inView(t, 1, 2, 1, 2, 3)
	n.Cast("g")
	n.Take(2, casting(id(2, 2), 1, "hg"))
	n.Take(3, casting(id(3, 3), 1, "kg")) // early, and to be forgotten behind the next one
	n.Take(3, casting(id(4, 3), 1, "kg"))
	suggest(t, n, []int{1}, nil, []member.Event{enter(of(3, 1, 1))})
	is(t, n, state{view: of(3, 1, 1), promised: id(3, 1)})
}

// M2: the plan's report of me is what was there then, and it comes first, if me is the first one that has so much.
func TestSuggestReport(t *testing.T) {
	n := inView(t, 1, 2, 1, 2, 3)
	n.Take(2, casting(id(2, 2), 1, "g"))
	n.Cast("hg")
	suggest(t, n, []int{1, 2}, all(propose(id(3, 1), 1, 2), 2), nil)
	take(t, n, 2, tell(id(3, 1), id(2, 2), put(log(2, "kg"), log(3, "g"))...),
		all(install(id(3, 1), []int{1, 2}, join(part(2, 2, 1, "hg"), part(2, 2, 2, "g"), part(2, 2, 3, "g"))...), 2),
		[]member.Event{deliver(of(2, 2, 1, 2, 3), 3, 1, "g"), enter(of(3, 1, 1, 2))})
}

// The rules of the whole (P3): members that are handed in may change.
func TestSuggestKeepsNothing(t *testing.T) {
	l := []int{1, 2, 3}
	n := begin(t, 1)
	outs, _ := n.Suggest(l[:2])
	if !slices.Equal(l, []int{1, 2, 3}) {
		t.Error(l)
	}
	l[1] = 7
	if !slices.Equal(outs[0].M.Members, []int{1, 2}) {
		t.Error(outs)
	}
	outs[0].M.Members[1] = 5
	take(t, n, 7, tell(id(1, 1), id(0, 7)), nil, nil)
	take(t, n, 2, tell(id(1, 1), id(0, 2)), all(install(id(1, 1), []int{1, 2}), 2), []member.Event{enter(of(1, 1, 1, 2))})
	alone := []int{1}
	n.Suggest(alone)
	alone[0] = 4
	if !sameView(n.View(), of(2, 1, 1)) {
		t.Error(n.View())
	}
}
