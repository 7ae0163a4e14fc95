package member_test

import (
	"math/rand"
	"slices"
	"testing"

	"gemot/api"
	"gemot/cut"
	"gemot/list"
	"gemot/member"
)

func one[T any](r *rand.Rand, l ...T) T { return l[r.Intn(len(l))] }

// some is items, by chance that is the same each time, of so few that one row is often another one's beginning.
func some(r *rand.Rand, most int) row {
	l := make(row, r.Intn(most+1))
	for i := range l {
		l[i] = one(r, row{"g", "g", "g", "hg"}...)
	}
	return l
}

func someMembers(r *rand.Rand) []int {
	return one(r, []int{1}, []int{2}, []int{1, 2}, []int{1, 2}, []int{2, 3}, []int{1, 2, 3}, []int{1, 2, 3}, []int{2, 3, 4}, []int{1, 3}, []int{2, 1}, nil, []int{2, 9}, []int{0, 2}, []int{2, 2})
}

// someId is often near to what is there.
func someId(r *rand.Rand, n *plain) api.Id {
	near := one(r, n.view.Id, n.promised, n.seen)
	near.Epoch += one(r, -1, 0, 0, 0, 1, 1, 2)
	near.Coord = one(r, near.Coord, 1, 2, 3)
	return one(r, near, near, near, near, near, near, n.view.Id, n.promised, n.promised, id(r.Intn(4), r.Intn(5)), id(one(r, top-2, top-1, top, -1), r.Intn(4)))
}

// someLogs are logs of what is there, shorter or longer.
func someLogs(r *rand.Rand, n *plain) []cut.Log {
	var l []cut.Log
	for p := 1; p <= 4; p++ {
		items := some(r, 3)
		if had := n.logs[p]; r.Intn(2) == 0 {
			items = append(slices.Clone(had[:r.Intn(len(had)+1)]), some(r, 2)...)
		}
		if len(items) > 0 && r.Intn(3) > 0 {
			l = append(l, log(p, items...))
		}
	}
	return l
}

func someTerms(r *rand.Rand, n *plain) row {
	logs := someLogs(r, n)
	var told []cut.Part
	for _, old := range []api.Id{id(0, 1), n.view.Id} {
		for _, g := range logs {
			told = append(told, cut.Part{Old: old, Sender: g.Sender, Items: g.Items})
		}
		if n.view.Id == id(0, 1) {
			break
		}
	}
	put, _ := cut.Put(logs)
	joined, _ := cut.Parts(told)
	return one(r, nil, nil, put, put, joined, joined, row{"g"}, row{"hg"}, row{"q"}, some(r, 3))
}

// fit is a message that says much as it must.
func fit(r *rand.Rand, n *plain) (int, list.Message) {
	sender := one(r, 1, 2, 3)
	if n.flushing() && r.Intn(3) > 0 {
		return fitFlushing(r, n)
	}
	switch r.Intn(4) {
	case 0:
		return sender, propose(id(n.promised.Epoch+one(r, 0, 1, 1, 2), sender), one(r, []int{1, 2}, []int{2, 3}, []int{1, 2, 3}, []int{2, 3, 4})...)
	case 1:
		return sender, casting(id(n.view.Id.Epoch+one(r, 0, 1), one(r, 1, 2, 3)), 1+r.Intn(3), one(r, row{"g", "hg"}...))
	}
	from := one(r, n.view.Members...)
	return from, casting(n.view.Id, len(n.logs[from])+1, one(r, row{"g", "hg", "q"}...))
}

// fitFlushing is one that brings the promised view about.
func fitFlushing(r *rand.Rand, n *plain) (int, list.Message) {
	if n.plan {
		terms, _ := cut.Put(someLogs(r, n))
		return one(r, n.with...), tell(n.promised, one(r, n.view.Id, n.view.Id, id(1, 1)), terms...)
	}
	return n.promised.Coord, install(n.promised, n.with, someTerms(r, n)...)
}

func someMessage(r *rand.Rand, n *plain) (int, list.Message) {
	if r.Intn(3) > 0 {
		return fit(r, n)
	}
	from := one(r, 0, 1, 1, 2, 2, 3, 3, 4, 9, n.promised.Coord)
	return from, list.Message{Kind: one(r, 3, 3, 4, 4, 5, 5, 6, 6, 6, 0, 2, 7), Id: someId(r, n), Old: someId(r, n), Number: r.Intn(5) - 1, Members: one(r, someMembers(r), n.with, n.view.Members), Terms: someTerms(r, n)}
}

// step does one thing with both, and tells what.
func step(r *rand.Rand, n *member.Node, p *plain) (string, []member.Out, []member.Event, bool) {
	switch r.Intn(10) {
	case 0:
		l := one(r, someMembers(r), []int{p.me, p.me + 1}, []int{p.me, 4, 5}, []int{p.me, p.me + 1}, p.view.Members, p.with)
		p.suggest(l)
		outs, events := n.Suggest(l)
		return "Suggest " + show(l), outs, events, true
	case 1:
		of := someId(r, p)
		p.heed(of)
		n.Heed(of)
		return "Heed " + show(of), nil, nil, true
	case 2, 3:
		item := one(r, row{"g", "hg", "q"}...)
		if r.Intn(100) == 0 {
			item = one(r, wide(19920), wide(19930), wide(20000), hashes(400))
		}
		want := p.cast(item)
		outs, events, e := n.Cast(item)
		return "Cast " + show(item), outs, events, e == want
	}
	from, m := someMessage(r, p)
	p.take(from, m)
	outs, events := n.Take(from, m)
	return "Take " + show(from) + " " + show(m), outs, events, true
}

// alike fails, if a step told what the plain one does not, or left the node otherwise.
func alike(t *testing.T, n *member.Node, p *plain, done []string, outs []member.Out, events []member.Event) {
	t.Helper()
	wantOuts, wantEvents := p.done()
	if !sameOuts(outs, wantOuts) || !sameEvents(events, wantEvents) || !sameState(stateOf(n), p.state()) {
		t.Fatalf("of %d, behind %q: %s %s %s, want %s %s %s", p.me, done, show(outs), show(events), show(stateOf(n)), show(wantOuts), show(wantEvents), show(p.state()))
	}
}

// M1 to M4: by chance that is the same each time, the node and the plain one tell the same, and are alike, behind each step.
func TestByChance(t *testing.T) {
	r := rand.New(rand.NewSource(12))
	entered, finished, events := 0, 0, 0
	for range 4000 {
		me := one(r, 1, 2, 3)
		n, p := begin(t, me), newPlain(me)
		if r.Intn(10) == 0 {
			near := id(top-1-r.Intn(8), r.Intn(9))
			n.Heed(near)
			p.heed(near)
		}
		var done []string
		for range 60 {
			what, outs, met, same := step(r, n, p)
			done = append(done, what)
			if !same {
				t.Fatalf("of %d, behind %q: another error", me, done)
			}
			alike(t, n, p, done, outs, met)
			events += len(met)
		}
		entered, finished = entered+p.entered, finished+p.finished
	}
	t.Logf("%d views entered, %d of them by own plans with others; %d events", entered, finished, events)
	if entered < 8000 || finished < 4000 || entered-finished < 2500 || events < 40000 {
		t.Error("too little came to be")
	}
}
