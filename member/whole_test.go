package member_test

import (
	"math/rand"
	"slices"
	"testing"

	"gemot/api"
	"gemot/cut"
	"gemot/list"
	"gemot/member"
	"gemot/term"
)

// within is a list with something behind it, that nobody is to read or write.
func within[T any](l []T, behind T) []T {
	whole := append(slices.Clone(l), behind, behind)
	return whole[:len(l)]
}

func spoilRow(l row) {
	for i := range l[:cap(l)] {
		l[:cap(l)][i] = "spoiled"
	}
}

func spoilMembers(l []int) {
	for i := range l[:cap(l)] {
		l[:cap(l)][i] = 77
	}
}

func spoilLogs(l []cut.Log) {
	for _, g := range l {
		spoilRow(g.Items)
	}
	clear(l[:cap(l)])
}

// spoil writes into all that was answered, and behind it, the first one ahead: what comes behind it must still be as it was.
func spoil(t *testing.T, outs []member.Out, events []member.Event) {
	t.Helper()
	wasOuts, wasEvents := deepOuts(outs), deepEvents(events)
	for i, o := range outs {
		spoilMembers(o.M.Members)
		spoilRow(o.M.Terms)
		if !sameOuts(outs[i+1:], wasOuts[i+1:]) || !sameEvents(events, wasEvents) {
			t.Fatal("lists of one answer share memory")
		}
	}
	for i, e := range events {
		spoilMembers(e.View.Members)
		if !sameEvents(events[i+1:], wasEvents[i+1:]) {
			t.Fatal("events share memory")
		}
	}
	clear(outs[:cap(outs)])
	clear(events[:cap(events)])
}

func deepOuts(l []member.Out) []member.Out {
	l = slices.Clone(l)
	for i := range l {
		l[i].M.Members, l[i].M.Terms = slices.Clone(l[i].M.Members), slices.Clone(l[i].M.Terms)
	}
	return l
}

func deepEvents(l []member.Event) []member.Event {
	l = slices.Clone(l)
	for i := range l {
		l[i].View.Members = slices.Clone(l[i].View.Members)
	}
	return l
}

// spoilState writes into what the node tells of itself.
func spoilState(n *member.Node) {
	spoilMembers(n.View().Members)
	spoilLogs(n.Logs())
}

// The rules of the whole (P3, P4): of two nodes that are told the same, one's answers, and what it was handed, are written into; both go on telling the same, and what was handed in stays as it was while it is taken.
func TestNothingIsShared(t *testing.T) {
	r := rand.New(rand.NewSource(3))
	for range 1500 {
		me := one(r, 1, 2, 3)
		n, other, p := begin(t, me), begin(t, me), newPlain(me)
		for range 40 {
			outs, events, wantOuts, wantEvents := bothStep(t, r, n, other, p)
			p.done()
			if !sameOuts(outs, wantOuts) || !sameEvents(events, wantEvents) {
				t.Fatalf("%s %s, want %s %s", show(outs), show(events), show(wantOuts), show(wantEvents))
			}
			spoil(t, outs, events)
			spoilState(n)
			if !sameState(stateOf(n), stateOf(other)) || !sameState(stateOf(n), stateOf(n)) {
				t.Fatalf("%s, want %s", show(stateOf(n)), show(stateOf(other)))
			}
		}
	}
}

// bothStep has n and other do the same; what n was handed is spoiled behind it.
func bothStep(t *testing.T, r *rand.Rand, n, other *member.Node, p *plain) (outs []member.Out, events []member.Event, wantOuts []member.Out, wantEvents []member.Event) {
	t.Helper()
	switch r.Intn(8) {
	case 0:
		l := one(r, someMembers(r), []int{p.me}, []int{p.me, p.me + 1}, []int{p.me, 4, 5})
		mine := within(l, 5)
		p.suggest(l)
		wantOuts, wantEvents = other.Suggest(l)
		outs, events = n.Suggest(mine)
		if whole := mine[:len(l)+2]; !slices.Equal(mine, l) || whole[len(l)] != 5 {
			t.Fatal(whole)
		}
		spoilMembers(mine)
	case 1:
		p.cast("g")
		wantOuts, wantEvents, _ = other.Cast("g")
		outs, events, _ = n.Cast("g")
	default:
		from, m := someMessage(r, p)
		p.take(from, m)
		wantOuts, wantEvents = other.Take(from, m)
		mine := m
		mine.Members, mine.Terms = within(m.Members, 5), within(m.Terms, "hg")
		outs, events = n.Take(from, mine)
		if !sameMessage(mine, m) || mine.Members[:len(m.Members)+2][len(m.Members)] != 5 || mine.Terms[:len(m.Terms)+2][len(m.Terms)] != "hg" {
			t.Fatal(show(mine))
		}
		spoilMembers(mine.Members)
		spoilRow(mine.Terms)
	}
	return outs, events, wantOuts, wantEvents
}

// P1 of the whole: lists and rows of any length, and logs that grow long.
func TestLong(t *testing.T) {
	const many = 1 << 17
	n := inView(t, 2, 5, 1, 2)
	v := of(5, 1, 1, 2)
	for i := range many {
		if _, events := n.Take(1, casting(v.Id, i+1, "g")); len(events) != 1 || events[0].Number != i+1 {
			t.Fatal(i, events)
		}
		n.Take(1, casting(id(9, 1), many-i, "g"))
	}
	if l := n.Logs(); len(l) != 1 || len(l[0].Items) != many {
		t.Error(len(l))
	}
	take(t, n, 1, propose(id(6, 1), 1, 2), nil, nil)
	var rising []cut.Part
	for i := range 20000 {
		rising = append(rising, part(i, 8, 8, "g"))
	}
	rising[5] = part(5, 1, 4, "g")
	take(t, n, 1, install(id(6, 1), []int{1, 2}, join(rising...)...), nil, []member.Event{deliver(v, 4, 1, "g"), enter(of(6, 1, 1, 2))})
	for _, kind := range []int{3, 4, 5, 6, 7} {
		for _, m := range []list.Message{
			{Kind: kind, Id: id(9, 1), Members: make([]int, many), Number: 1, Terms: slices.Repeat(row{wide(20001)}, many)},
			{Kind: kind, Id: id(6, 1), Members: slices.Repeat([]int{1, 2}, many), Number: 1, Terms: make(row, many)},
		} {
			if outs, events := n.Take(1, m); len(outs) != 0 || len(events) != 0 {
				t.Error(kind, len(outs), len(events))
			}
		}
	}
	is(t, n, state{view: of(6, 1, 1, 2), promised: id(6, 1)})
	if _, _, e := n.Cast(term.Term(make([]byte, 1<<22))); e != api.ErrArg {
		t.Error(e)
	}
}
