package member_test

import (
	"math"
	"slices"
	"testing"

	"gemot/api"
	"gemot/list"
	"gemot/member"
	"gemot/term"
)

// M4: of no kind that a node takes, nothing.
func TestTakeKinds(t *testing.T) {
	for _, kind := range []int{0, 1, 2, 7, 8, 9, 20, -3, 3 + 256, 3 + 1<<32, math.MaxInt, math.MinInt} {
		n := begin(t, 2)
		still(t, n, 1, list.Message{Kind: kind, Id: id(1, 1), Members: []int{1, 2}})
		still(t, n, 1, list.Message{Kind: kind, Id: id(0, 2), Number: 1, Terms: row{"g"}})
		n.Take(1, propose(id(1, 1), 1, 2))
		still(t, n, 1, list.Message{Kind: kind, Id: id(1, 1), Members: []int{1, 2}})
	}
}

// M4, PROPOSE: promised, and told to from, with the logs of the view.
func TestPropose(t *testing.T) {
	n := inView(t, 3, 5, 1, 3, 4)
	n.Take(4, casting(id(5, 1), 1, "g"))
	n.Cast("hg")
	n.Take(4, casting(id(5, 1), 2, "kg"))
	had := logs(log(3, "hg"), log(4, "g", "kg"))
	for i, c := range []struct {
		of      api.Id
		members []int
	}{
		{id(5, 2), []int{2, 3}},
		{id(5, 3), []int{3}}, // of me to me: no word says that it is wrong
		{id(5, 4), []int{3, 4}},
		{id(6, 1), []int{1, 2, 3, 4, 5, 6, 7, 8}},
		{id(6, 8), []int{3, 8}},
		{id(9, 1), []int{1, 3}},
		{id(top-1, 1), []int{1, 3}},
	} {
		from := c.of.Coord
		take(t, n, from, propose(c.of, c.members...), []member.Out{out(from, tell(c.of, id(5, 1), put(had...)...))}, nil)
		is(t, n, state{of(5, 1, 1, 3, 4), c.of, true, had})
		still(t, n, from, propose(c.of, c.members...))
		if i == 0 {
			cast(t, n, "g", nil, nil, api.ErrState)
		}
	}
}

// M4, PROPOSE: whatever is not as it says.
func TestProposeWrong(t *testing.T) {
	n := inView(t, 2, 5, 1, 2, 3)
	for _, c := range []struct {
		from    int
		of      api.Id
		members []int
	}{
		// From is not Coord of Id.
		{3, id(6, 1), []int{1, 2, 3}},
		{1, id(6, 3), []int{1, 2, 3}},
		{2, id(6, 1), []int{1, 2, 3}},
		{0, id(6, 1), []int{1, 2, 3}},
		// Members is no row.
		{1, id(6, 1), nil},
		{1, id(6, 1), []int{2, 1}},
		{1, id(6, 1), []int{1, 1, 2}},
		{1, id(6, 1), []int{1, 2, 9}},
		{0, id(6, 0), []int{0, 2}},
		{9, id(6, 9), []int{2, 9}},
		{1, id(6, 1), []int{0, 1, 2}},
		{-1, id(6, -1), []int{-1, 2}},
		// It has not from, or not me.
		{1, id(6, 1), []int{2, 3}},
		{1, id(6, 1), []int{1, 3}},
		{1, id(6, 1), []int{3}},
		{1, id(6, 1), []int{1}},
		{1, id(6, 1), []int{2}},
		// Id is not above the promised one.
		{1, id(5, 1), []int{1, 2, 3}},
		{1, id(4, 1), []int{1, 2, 3}},
		{3, id(4, 3), []int{1, 2, 3}},
		{1, id(-6, 1), []int{1, 2, 3}},
		{1, id(math.MinInt, 1), []int{1, 2, 3}},
		// Its Epoch is 2^31 - 1 or more.
		{1, id(top, 1), []int{1, 2, 3}},
		{3, id(top, 3), []int{1, 2, 3}},
		{1, id(top+1, 1), []int{1, 2, 3}},
		{1, id(1<<32+6, 1), []int{1, 2, 3}},
		{1, id(math.MaxInt, 1), []int{1, 2, 3}},
	} {
		still(t, n, c.from, propose(c.of, c.members...))
	}
	// None of them was seen: nothing is to be suggested, and the next id is of the view.
	n = inView(t, 1, 5, 1, 2)
	for _, of := range []api.Id{id(7, 3), id(top, 2), id(5, 1)} {
		still(t, n, 2, propose(of, 1, 2, 3))
		still(t, n, 3, propose(of, 1, 2))
	}
	suggest(t, n, []int{1, 2}, nil, nil)
	suggest(t, n, []int{1}, nil, []member.Event{enter(of(6, 1, 1))})
}

// M4, PROPOSE: of an id that is above the promised one, though not above the view's coord, and the other way round.
func TestProposeAbove(t *testing.T) {
	n := inView(t, 2, 5, 2, 7)
	still(t, n, 6, propose(id(5, 6), 2, 6))
	still(t, n, 8, propose(id(4, 8), 2, 8))
	take(t, n, 8, propose(id(5, 8), 2, 8), []member.Out{out(8, tell(id(5, 8), id(5, 7)))}, nil)
	still(t, n, 7, propose(id(5, 7), 2, 7))
	take(t, n, 1, propose(id(6, 1), 1, 2), []member.Out{out(1, tell(id(6, 1), id(5, 7)))}, nil)
	still(t, n, 8, propose(id(5, 8), 2, 8))
}

// M4, PROPOSE: it is seen, if it is above what was seen.
func TestProposeSeen(t *testing.T) {
	n := begin(t, 1)
	n.Take(2, propose(id(4, 2), 1, 2))
	n.Heed(id(4, 1))
	suggest(t, n, []int{1, 2}, all(propose(id(5, 1), 1, 2), 2), nil)
	n = begin(t, 1)
	n.Heed(id(9, 1))
	n.Take(2, propose(id(4, 2), 1, 2))
	suggest(t, n, []int{1, 2}, all(propose(id(10, 1), 1, 2), 2), nil)
}

// M4, PROPOSE: the plan is given up: what is told of it is told of none any more.
func TestProposeEndsThePlan(t *testing.T) {
	n := begin(t, 1)
	n.Suggest([]int{1, 2})
	take(t, n, 2, propose(id(2, 2), 1, 2), []member.Out{out(2, tell(id(2, 2), id(0, 1)))}, nil)
	still(t, n, 2, tell(id(1, 1), id(0, 2)))
	still(t, n, 2, tell(id(2, 2), id(0, 2)))
	suggest(t, n, []int{1, 2}, all(propose(id(3, 1), 1, 2), 2), nil)
	// One that is not taken gives up nothing.
	still(t, n, 2, propose(id(2, 2), 1, 2))
	still(t, n, 2, propose(id(4, 2), 2, 3))
	take(t, n, 2, tell(id(3, 1), id(0, 2)), all(install(id(3, 1), []int{1, 2}), 2), []member.Event{enter(of(3, 1, 1, 2))})
}

// M4, PROPOSE: no word speaks of its Old, Number and Terms.
func TestProposeWithMore(t *testing.T) {
	n := begin(t, 2)
	m := propose(id(1, 1), 1, 2)
	m.Old, m.Number, m.Terms = id(-5, 99), -7, row{"q"}
	take(t, n, 1, m, []member.Out{out(1, tell(id(1, 1), id(0, 2)))}, nil)
}

// M4, TELL: when all have told, in whichever order, the longest of each is installed, by the order of members.
func TestTell(t *testing.T) {
	terms := map[int]row{2: put(log(1, "g", "hg"), log(3, "g")), 3: put(log(1, "g"), log(3, "hg", "g")), 5: put(log(1, "hg", "hg"), log(5, "kg"))}
	olds := map[int]api.Id{2: id(2, 2), 3: id(2, 2), 5: id(1, 7)}
	// Of 1 in the view 2.2 me has two items, and is the first one of those that have as many.
	want := join(part(1, 7, 1, "hg", "hg"), part(1, 7, 5, "kg"), part(2, 2, 1, "kg", "g"), part(2, 2, 3, "hg", "g"))
	for _, order := range [][]int{{2, 3, 5}, {5, 3, 2}, {3, 5, 2}, {3, 2, 5}} {
		n := inView(t, 1, 2, 1, 2, 3)
		n.Cast("kg")
		n.Cast("g")
		n.Suggest([]int{1, 2, 3, 5})
		for _, p := range order[:2] {
			still(t, n, p, tell(id(3, 1), olds[p], terms[p]...))
			still(t, n, p, tell(id(3, 1), olds[p], terms[p]...))
			still(t, n, p, tell(id(3, 1), id(0, p)))
		}
		last := order[2]
		v := of(3, 1, 1, 2, 3, 5)
		take(t, n, last, tell(id(3, 1), olds[last], terms[last]...), all(install(v.Id, v.Members, want...), 2, 3, 5),
			[]member.Event{deliver(of(2, 2, 1, 2, 3), 3, 1, "hg"), deliver(of(2, 2, 1, 2, 3), 3, 2, "g"), enter(v)})
		is(t, n, state{view: v, promised: v.Id})
		still(t, n, last, tell(id(3, 1), olds[last], terms[last]...))
		suggest(t, n, []int{1, 2, 3, 5}, nil, nil)
	}
}

// M4, TELL: whatever is not as it says; the plan waits for what is right.
func TestTellWrong(t *testing.T) {
	n := begin(t, 1)
	still(t, n, 2, tell(id(0, 1), id(0, 2))) // no plan
	still(t, n, 1, tell(id(0, 1), id(0, 2)))
	n.Suggest([]int{1, 2, 3})
	twice := append(put(log(1, "g")), put(log(1, "g"))...)
	turned := append(put(log(2, "g")), put(log(1, "g"))...)
	for _, c := range []struct {
		from int
		m    list.Message
	}{
		// Of another id.
		{2, tell(id(1, 2), id(0, 2))},
		{2, tell(id(0, 1), id(0, 2))},
		{2, tell(id(2, 1), id(0, 2))},
		{2, tell(id(1+1<<32, 1), id(0, 2))},
		// From is no member, or has told: me told at first.
		{4, tell(id(1, 1), id(0, 4))},
		{0, tell(id(1, 1), id(0, 2))},
		{-2, tell(id(1, 1), id(0, 2))},
		{2 + 1<<32, tell(id(1, 1), id(0, 2))},
		{math.MaxInt, tell(id(1, 1), id(0, 2))},
		{1, tell(id(1, 1), id(0, 1))},
		{1, tell(id(1, 1), id(0, 1), put(log(1, "g"))...)},
		// Terms are no logs.
		{2, tell(id(1, 1), id(0, 2), "g")},
		{2, tell(id(1, 1), id(0, 2), term.Number(0))},
		{2, tell(id(1, 1), id(0, 2), "q")},
		{2, tell(id(1, 1), id(0, 2), "")},
		{2, tell(id(1, 1), id(0, 2), twice...)},
		{2, tell(id(1, 1), id(0, 2), turned...)},
		{2, tell(id(1, 1), id(0, 2), join(part(0, 1, 1, "g"))...)}, // the parts' row as a log: of sender 0
		{2, tell(id(1, 1), id(0, 2), append(put(log(1, "g")), "g")...)},
		{2, tell(id(1, 1), id(0, 2), slices.Repeat(row{"g"}, 1<<18)...)},
	} {
		still(t, n, c.from, c.m)
	}
	still(t, n, 3, tell(id(1, 1), id(0, 3)))
	take(t, n, 2, tell(id(1, 1), id(0, 2)), all(install(id(1, 1), []int{1, 2, 3}), 2, 3), []member.Event{enter(of(1, 1, 1, 2, 3))})
}

// M4, TELL: those who told a plan that was given up have told nothing of the next one.
func TestTellAnew(t *testing.T) {
	n := begin(t, 1)
	n.Suggest([]int{1, 2, 3})
	still(t, n, 2, tell(id(1, 1), id(0, 2), put(log(2, "g"))...))
	n.Suggest([]int{1, 2})
	still(t, n, 2, tell(id(1, 1), id(0, 2)))
	take(t, n, 2, tell(id(2, 1), id(0, 2), put(log(2, "hg"))...), all(install(id(2, 1), []int{1, 2}, join(part(0, 2, 2, "hg"))...), 2), []member.Event{enter(of(2, 1, 1, 2))})
}

// M4, TELL: its Old is whatever it says; no word speaks of its Members and Number. Of an Old that no part has (11), no Install is told, but the view is entered.
func TestTellOld(t *testing.T) {
	for _, c := range []struct {
		old  api.Id
		told bool
	}{{id(0, 0), true}, {id(9, 8), true}, {id(top, 1), true}, {id(top+1, 1), false}, {id(-1, 1), false}, {id(1, 9), false}, {id(1, -1), false}} {
		n := begin(t, 1)
		n.Suggest([]int{1, 2})
		m := tell(id(1, 1), c.old, put(log(4, "g"))...)
		m.Members, m.Number = []int{7, 7}, -1
		var outs []member.Out
		if c.told {
			outs = all(install(id(1, 1), []int{1, 2}, join(part(c.old.Epoch, c.old.Coord, 4, "g"))...), 2)
		}
		take(t, n, 2, m, outs, []member.Event{enter(of(1, 1, 1, 2))})
		// Without items it is told of no part.
		n = begin(t, 1)
		n.Suggest([]int{1, 2})
		take(t, n, 2, tell(id(1, 1), c.old), all(install(id(1, 1), []int{1, 2}), 2), []member.Event{enter(of(1, 1, 1, 2))})
	}
}

// M4, TELL: what lacks is told ahead of the view, by sender; what is of me is not told again, though another one says that there is more.
func TestTellMissing(t *testing.T) {
	n := inView(t, 1, 2, 1, 2, 3, 4)
	v := of(2, 2, 1, 2, 3, 4)
	n.Take(4, casting(id(2, 2), 1, "g"))
	n.Take(3, casting(id(2, 2), 1, "hg"))
	n.Cast("g")
	n.Suggest([]int{1, 2})
	longer := logs(log(1, "g", "kg"), log(2, "g"), log(3, "kg", "kg"), log(4, "g", "kg", "hg"), log(8, "kg"))
	took := part(2, 2, 3, "kg", "kg") // not what me has a beginning of
	take(t, n, 2, tell(id(3, 1), id(2, 2), put(longer...)...),
		all(install(id(3, 1), []int{1, 2}, join(part(2, 2, 1, "g", "kg"), part(2, 2, 2, "g"), took, part(2, 2, 4, "g", "kg", "hg"), part(2, 2, 8, "kg"))...), 2),
		[]member.Event{deliver(v, 2, 1, "g"), deliver(v, 4, 2, "kg"), deliver(v, 4, 3, "hg"), deliver(v, 8, 1, "kg"), enter(of(3, 1, 1, 2))})
}
