package member_test

import (
	"slices"
	"testing"

	"gemot/api"
	"gemot/cut"
	"gemot/list"
	"gemot/member"
	"gemot/term"
)

// M4, INSTALL: what lacks of the view is told, and then the promised one is entered.
func TestInstall(t *testing.T) {
	n := inView(t, 3, 5, 1, 3, 4)
	v := of(5, 1, 1, 3, 4)
	n.Take(4, casting(id(5, 1), 1, "g"))
	n.Cast("hg")
	n.Take(2, propose(id(8, 2), 2, 3, 4))
	next := of(8, 2, 2, 3, 4)
	parts := join(part(4, 1, 1, "g"), part(5, 1, 1, "kg", "kg"), part(5, 1, 3, "hg", "kg"), part(5, 1, 4, "g", "hg"), part(5, 1, 7, "g"), part(6, 1, 4, "g", "hg", "kg"))
	take(t, n, 2, install(next.Id, next.Members, parts...), nil, []member.Event{deliver(v, 1, 1, "kg"), deliver(v, 1, 2, "kg"), deliver(v, 4, 2, "hg"), deliver(v, 7, 1, "g"), enter(next)})
	is(t, n, state{view: next, promised: next.Id})
	still(t, n, 2, install(next.Id, next.Members, parts...))
	still(t, n, 2, install(next.Id, next.Members))
	suggest(t, n, []int{3, 4}, all(propose(id(9, 3), 3, 4), 4), nil)
}

// M4, INSTALL: whatever is not as it says.
func TestInstallWrong(t *testing.T) {
	n := inView(t, 2, 5, 1, 2)
	right := install(id(6, 1), []int{1, 2, 3})
	still(t, n, 1, right)                          // not promised
	still(t, n, 1, install(id(5, 1), []int{1, 2})) // promised, but not flushing
	still(t, n, 2, install(id(6, 2), []int{2}))    // nothing of it
	n.Take(1, propose(right.Id, right.Members...))
	twice := append(join(part(1, 1, 1, "g")), join(part(1, 1, 1, "g"))...)
	for _, c := range []struct {
		from int
		m    list.Message
	}{
		{3, right},
		{2, right},
		{0, right},
		{1 + 1<<32, right},
		{3, install(id(6, 3), []int{1, 2, 3})},
		{1, install(id(6, 3), []int{1, 2, 3})},
		{1, install(id(7, 1), []int{1, 2, 3})},
		{1, install(id(5, 1), []int{1, 2, 3})},
		{1, install(id(6+1<<32, 1), []int{1, 2, 3})},
		{1, install(id(6, 1), []int{1, 2})},
		{1, install(id(6, 1), []int{1, 2, 4})},
		{1, install(id(6, 1), []int{1, 3, 2})},
		{1, install(id(6, 1), []int{1, 2, 3, 4})},
		{1, install(id(6, 1), nil)},
		{1, install(id(6, 1), make([]int, 1<<18))},
		{1, install(id(6, 1), []int{1, 2, 3}, "g")},
		{1, install(id(6, 1), []int{1, 2, 3}, "q")},
		{1, install(id(6, 1), []int{1, 2, 3}, term.Number(0))},
		{1, install(id(6, 1), []int{1, 2, 3}, put(log(1, "g"))...)},
		{1, install(id(6, 1), []int{1, 2, 3}, twice...)},
		{1, install(id(6, 1), []int{1, 2, 3}, append(join(part(1, 1, 1, "g")), "g")...)},
		{1, install(id(6, 1), []int{1, 2, 3}, slices.Repeat(row{"g"}, 1<<18)...)},
	} {
		still(t, n, c.from, c.m)
	}
	take(t, n, 1, right, nil, []member.Event{enter(of(6, 1, 1, 2, 3))})
}

// M4, INSTALL: not of the first view, nor of what me proposed, to me, nor of what was promised before.
func TestInstallOfMe(t *testing.T) {
	n := begin(t, 1)
	still(t, n, 1, install(id(0, 1), []int{1}))
	n.Suggest([]int{1, 2})
	still(t, n, 1, install(id(1, 1), []int{1, 2}))
	still(t, n, 2, install(id(1, 1), []int{1, 2}))
	n.Take(2, propose(id(2, 2), 1, 2))
	n.Take(2, propose(id(3, 2), 1, 2))
	still(t, n, 2, install(id(2, 2), []int{1, 2}))
	n.Take(1, propose(id(4, 1), 1, 2)) // of me, to me: it is promised, but nobody installs it
	still(t, n, 1, install(id(4, 1), []int{1, 2}))
	take(t, n, 2, propose(id(4, 2), 1, 2), []member.Out{out(2, tell(id(4, 2), id(0, 1)))}, nil)
	take(t, n, 2, install(id(4, 2), []int{1, 2}), nil, []member.Event{enter(of(4, 2, 1, 2))})
}

// M4, INSTALL: members are those of the Propose, whatever became of the list that it came in; no word speaks of its Old and Number.
func TestInstallMembers(t *testing.T) {
	n := begin(t, 2)
	l := []int{1, 2, 3}
	n.Take(1, propose(id(1, 1), l[:2]...))
	l[0] = 2
	m := install(id(1, 1), []int{1, 2})
	m.Old, m.Number = id(-1, 77), -3
	take(t, n, 1, m, nil, []member.Event{enter(of(1, 1, 1, 2))})
	m.Members[1] = 8
	is(t, n, state{view: of(1, 1, 1, 2), promised: id(1, 1)})
}

// What cannot be put or packed is not told; all else is as it says: of a Tell.
func TestTellTooGreat(t *testing.T) {
	for i, c := range []struct {
		items map[int]row
		told  bool
	}{
		{map[int]row{1: {wide(19000)}}, true},
		{map[int]row{1: {wide(19980)}}, false}, // its log is put, but no message packed of it
		{map[int]row{1: {wide(20000)}}, false},
		{map[int]row{1: {hashes(390)}}, true},
		{map[int]row{1: {hashes(391)}}, false},
		{map[int]row{1: {hashes(400)}}, false},
		{map[int]row{1: {wide(10000)}, 3: {wide(9800)}}, true},
		{map[int]row{1: {wide(10000)}, 3: {wide(10000)}}, false},
		{map[int]row{1: slices.Repeat(row{"g"}, 149)}, true},
		{map[int]row{1: slices.Repeat(row{"g"}, 150)}, false}, // more items than a log is put with
		{map[int]row{1: {"q"}}, false},                        // no right term, as no word asks of a cast that is taken
	} {
		n := inView(t, 2, 5, 1, 2, 3)
		var had []cut.Log
		for _, sender := range []int{1, 3} {
			if len(c.items[sender]) > 0 {
				had = append(had, log(sender, c.items[sender]...))
			}
			for k, item := range c.items[sender] {
				take(t, n, sender, casting(id(5, 1), k+1, item), nil, []member.Event{deliver(of(5, 1, 1, 2, 3), sender, k+1, item)})
			}
		}
		outs, events := n.Take(1, propose(id(6, 1), 1, 2))
		if (len(outs) == 1) != c.told || len(events) != 0 {
			t.Errorf("%d: %s", i, show(outs))
		}
		if c.told && !sameOuts(outs, []member.Out{out(1, tell(id(6, 1), id(5, 1), put(had...)...))}) {
			t.Errorf("%d: %s", i, show(outs))
		}
		is(t, n, state{of(5, 1, 1, 2, 3), id(6, 1), true, had})
		take(t, n, 1, install(id(6, 1), []int{1, 2}), nil, []member.Event{enter(of(6, 1, 1, 2))})
	}
}

// What cannot be put or packed is not told; all else is as it says: of an Install.
func TestInstallTooGreat(t *testing.T) {
	for i, c := range []struct {
		mine, theirs term.Term
		told         bool
	}{
		{wide(10000), wide(9500), true},
		{wide(10000), wide(9900), false}, // each of the parts is put, but no message packed of both
		{wide(19970), "g", false},        // no part is put of it
		{hashes(385), "g", true},
		{hashes(386), "g", false},
		{hashes(400), "g", false},
	} {
		n := inView(t, 1, 5, 1, 2)
		if _, _, e := n.Cast(c.mine); e != api.OK {
			t.Fatal(e)
		}
		n.Suggest([]int{1, 2, 3})
		n.Take(2, tell(id(6, 1), id(5, 2), put(log(2, c.theirs))...))
		outs, events := n.Take(3, tell(id(6, 1), id(0, 3)))
		if (len(outs) == 2) != c.told || !c.told && len(outs) != 0 {
			t.Errorf("%d: %s", i, show(outs))
		}
		v := of(6, 1, 1, 2, 3)
		if want := []member.Event{deliver(of(5, 2, 1, 2), 2, 1, c.theirs), enter(v)}; !sameEvents(events, want) {
			t.Errorf("%d: %s", i, show(events))
		}
		is(t, n, state{view: v, promised: v.Id})
	}
}
