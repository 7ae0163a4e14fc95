package member_test

import (
	"slices"
	"testing"

	"gemot/api"
	"gemot/member"
	"gemot/term"
)

func cast(t *testing.T, n *member.Node, item term.Term, wantOuts []member.Out, wantEvents []member.Event, want api.Errno) {
	t.Helper()
	outs, events, e := n.Cast(item)
	if e != want {
		t.Fatalf("Cast of %s: error %d, want %d", show(item), e, want)
	}
	told(t, "Cast of "+show(item), outs, events, wantOuts, wantEvents)
}

// M3: to each other member, in order, a Cast with the item's number; and a Deliver event of it.
func TestCast(t *testing.T) {
	n := begin(t, 3)
	v := of(0, 3, 3)
	cast(t, n, "g", nil, []member.Event{deliver(v, 3, 1, "g")}, api.OK)
	cast(t, n, "g", nil, []member.Event{deliver(v, 3, 2, "g")}, api.OK)
	is(t, n, state{v, id(0, 3), false, logs(log(3, "g", "g"))})
	n = inView(t, 3, 7, 1, 3, 4, 8)
	v = of(7, 1, 1, 3, 4, 8)
	n.Take(4, casting(id(7, 1), 1, "kg"))
	for i, item := range (row{"g", "hg", "hg", wide(19000), hashes(391)}) {
		cast(t, n, item, all(casting(id(7, 1), i+1, item), 1, 4, 8), []member.Event{deliver(v, 3, i+1, item)}, api.OK)
	}
	is(t, n, state{v, id(7, 1), false, logs(log(3, "g", "hg", "hg", wide(19000), hashes(391)), log(4, "kg"))})
	n = inView(t, 8, 1, 8)
	cast(t, n, "g", nil, []member.Event{deliver(of(1, 8, 8), 8, 1, "g")}, api.OK)
}

// M3: each error changes nothing; the first one that is named is told.
func TestCastErrors(t *testing.T) {
	n := inView(t, 2, 7, 1, 2)
	v := of(7, 1, 1, 2)
	for _, w := range wrongs() {
		cast(t, n, w, nil, nil, api.ErrArg)
	}
	is(t, n, state{view: v, promised: id(7, 1)})
	var sent row
	for i := range 32 {
		n.Take(1, casting(id(7, 1), i+1, "g"))
		cast(t, n, "hg", all(casting(id(7, 1), i+1, "hg"), 1), []member.Event{deliver(v, 2, i+1, "hg")}, api.OK)
		sent = append(sent, "hg")
	}
	full := logs(log(1, slices.Repeat(row{"g"}, 32)...), log(2, sent...))
	cast(t, n, "g", nil, nil, api.ErrCount)
	cast(t, n, "q", nil, nil, api.ErrCount)
	is(t, n, state{v, id(7, 1), false, full})
	n.Take(1, propose(id(8, 1), 1, 2))
	cast(t, n, "g", nil, nil, api.ErrState)
	cast(t, n, "q", nil, nil, api.ErrState)
	is(t, n, state{v, id(8, 1), true, full})
	n = begin(t, 1)
	n.Suggest([]int{1, 2})
	cast(t, n, "", nil, nil, api.ErrState)
}

// M3: only what me cast counts, and in a new view it counts anew.
func TestCastCountsAnew(t *testing.T) {
	n := inView(t, 1, 2, 1, 2)
	for i := range 40 {
		n.Take(2, casting(id(2, 2), i+1, "g"))
	}
	for i := range 32 {
		cast(t, n, "g", all(casting(id(2, 2), i+1, "g"), 2), []member.Event{deliver(of(2, 2, 1, 2), 1, i+1, "g")}, api.OK)
	}
	cast(t, n, "g", nil, nil, api.ErrCount)
	n.Suggest([]int{1})
	cast(t, n, "g", nil, []member.Event{deliver(of(3, 1, 1), 1, 1, "g")}, api.OK)
}

// What cannot be packed is not told; all else is as it says.
func TestCastTooGreat(t *testing.T) {
	v := of(7, 1, 1, 2)
	for _, item := range (row{wide(20000), wide(19930), hashes(400), hashes(393)}) {
		n := inView(t, 2, 7, 1, 2)
		cast(t, n, item, nil, []member.Event{deliver(v, 2, 1, item)}, api.OK)
		is(t, n, state{v, id(7, 1), false, logs(log(2, item))})
		cast(t, n, "g", all(casting(id(7, 1), 2, "g"), 1), []member.Event{deliver(v, 2, 2, "g")}, api.OK)
	}
	// The greatest ones: seven numbers of nine bytes, each in a pair, the pair of the item, and the 0 behind it.
	for _, item := range (row{wide(20000 - 7*10 - 1 - 9), hashes(400 - 8)}) {
		n := inView(t, 2, 7, 1, 2)
		cast(t, n, item, all(casting(id(7, 1), 1, item), 1), []member.Event{deliver(v, 2, 1, item)}, api.OK)
	}
	n := inView(t, 2, 7, 1, 2)
	item := wide(20000 - 7*10 - 1 - 9 + 1)
	cast(t, n, item, nil, []member.Event{deliver(v, 2, 1, item)}, api.OK)
}
