package member_test

import (
	"slices"

	"gemot/api"
	"gemot/cut"
	"gemot/list"
	"gemot/member"
	"gemot/term"
)

// plain says the chapter's words again, with nothing kept twice, nothing left out, and each condition by itself.
type plain struct {
	me          int
	view        api.View
	logs        map[int]row
	promised    api.Id
	with        []int // who is to be in the promised view
	seen        api.Id
	plan        bool
	planId      api.Id
	planMembers []int
	told        []bool
	reports     []cut.Report
	early       []plainEarly
	outs        []member.Out
	events      []member.Event
	entered     int
	finished    int // by its own plan, of more than itself
}

type plainEarly struct {
	from int
	m    list.Message
}

func newPlain(me int) *plain {
	first := id(0, me)
	return &plain{me: me, view: api.View{Id: first, Members: []int{me}}, logs: map[int]row{}, promised: first, with: []int{me}, seen: first}
}

// done is what was told since it was asked last.
func (n *plain) done() ([]member.Out, []member.Event) {
	outs, events := n.outs, n.events
	n.outs, n.events = nil, nil
	return outs, events
}

func (n *plain) flushing() bool { return n.promised != n.view.Id }

func plainAbove(a, b api.Id) bool {
	if a.Epoch != b.Epoch {
		return a.Epoch > b.Epoch
	}
	return a.Coord > b.Coord
}

func plainRow(l []int) bool {
	for i, p := range l {
		if p < 1 || p > 8 || i > 0 && l[i-1] >= p {
			return false
		}
	}
	return len(l) > 0
}

func (n *plain) logsNow() []cut.Log {
	var l []cut.Log
	for p := 1; p <= 8; p++ {
		if len(n.logs[p]) > 0 {
			l = append(l, log(p, slices.Clone(n.logs[p])...))
		}
	}
	return l
}

func (n *plain) state() state {
	return state{n.view, n.promised, n.flushing(), n.logsNow()}
}

func (n *plain) send(to int, m list.Message) {
	if _, e := list.Pack(m); e == api.OK {
		n.outs = append(n.outs, member.Out{To: to, M: m})
	}
}

func (n *plain) deliver(sender int, item term.Term) {
	n.logs[sender] = append(n.logs[sender], item)
	n.events = append(n.events, member.Event{Kind: member.Deliver, View: n.view, Sender: sender, Number: len(n.logs[sender]), Item: item})
}

func (n *plain) heed(of api.Id) {
	if of.Epoch >= 2147483647 {
		return
	}
	if plainAbove(of, n.seen) {
		n.seen = of
	}
}

func (n *plain) suggest(members []int) {
	if !plainRow(members) {
		return
	}
	if members[0] != n.me {
		return
	}
	if n.seen.Epoch >= 2147483646 {
		return
	}
	if n.seen == n.promised {
		if n.plan && slices.Equal(n.planMembers, members) {
			return
		}
		if !n.plan && !n.flushing() && slices.Equal(n.view.Members, members) {
			return
		}
	}
	members = slices.Clone(members)
	next := id(n.seen.Epoch+1, n.me)
	n.seen, n.promised, n.with = next, next, members
	n.plan, n.planId, n.planMembers = true, next, members
	n.told, n.reports = make([]bool, 9), make([]cut.Report, 9)
	n.told[n.me], n.reports[n.me] = true, cut.Report{From: n.me, Old: n.view.Id, Logs: n.logsNow()}
	for _, p := range members {
		if p != n.me {
			n.send(p, list.Message{Kind: 3, Id: next, Members: members})
		}
	}
	if len(members) == 1 {
		n.finish()
	}
}

func (n *plain) finish() {
	if len(n.planMembers) > 1 {
		n.finished++
	}
	var reports []cut.Report
	for _, p := range n.planMembers {
		reports = append(reports, n.reports[p])
	}
	all := cut.Cut(reports)
	if terms, e := cut.Parts(all); e == api.OK {
		for _, p := range n.planMembers {
			if p != n.me {
				n.send(p, list.Message{Kind: 5, Id: n.planId, Members: n.planMembers, Terms: terms})
			}
		}
	}
	n.enter(api.View{Id: n.planId, Members: n.planMembers}, all)
}

func (n *plain) enter(v api.View, all []cut.Part) {
	n.entered++
	for _, l := range cut.Missing(all, n.view.Id, n.logsNow()) {
		for _, item := range l.Items {
			if l.Sender != n.me {
				n.deliver(l.Sender, item)
			}
		}
	}
	n.view, n.logs, n.promised, n.with, n.plan = v, map[int]row{}, v.Id, v.Members, false
	n.events = append(n.events, member.Event{Kind: member.Enter, View: v})
	came := n.early
	n.early = nil
	for _, e := range came {
		if e.m.Id == v.Id {
			n.take(e.from, e.m)
		} else if plainAbove(e.m.Id, v.Id) {
			n.early = append(n.early, e)
		}
	}
}

func (n *plain) cast(item term.Term) api.Errno {
	if n.flushing() {
		return api.ErrState
	}
	if len(n.logs[n.me]) == 32 {
		return api.ErrCount
	}
	if !term.Right(item) {
		return api.ErrArg
	}
	n.deliver(n.me, item)
	for _, p := range n.view.Members {
		if p != n.me {
			n.send(p, list.Message{Kind: 6, Id: n.view.Id, Number: len(n.logs[n.me]), Terms: row{item}})
		}
	}
	return api.OK
}

func (n *plain) take(from int, m list.Message) {
	switch m.Kind {
	case 3:
		n.takePropose(from, m)
	case 4:
		n.takeTell(from, m)
	case 5:
		n.takeInstall(from, m)
	case 6:
		n.takeCast(from, m)
	}
}

func (n *plain) takePropose(from int, m list.Message) {
	if m.Id.Coord != from || !plainRow(m.Members) || !slices.Contains(m.Members, from) || !slices.Contains(m.Members, n.me) {
		return
	}
	if !plainAbove(m.Id, n.promised) || m.Id.Epoch >= 2147483647 {
		return
	}
	n.promised, n.with, n.plan = m.Id, slices.Clone(m.Members), false
	n.heed(m.Id)
	if terms, e := cut.Put(n.logsNow()); e == api.OK {
		n.send(from, list.Message{Kind: 4, Id: m.Id, Old: n.view.Id, Terms: terms})
	}
}

func (n *plain) takeTell(from int, m list.Message) {
	if !n.plan || m.Id != n.planId || !slices.Contains(n.planMembers, from) || n.told[from] {
		return
	}
	logs, e := cut.Take(m.Terms)
	if e != api.OK {
		return
	}
	n.told[from], n.reports[from] = true, cut.Report{From: from, Old: m.Old, Logs: logs}
	for _, p := range n.planMembers {
		if !n.told[p] {
			return
		}
	}
	n.finish()
}

func (n *plain) takeInstall(from int, m list.Message) {
	if m.Id.Coord != from || m.Id != n.promised || !n.flushing() || !slices.Equal(m.Members, n.with) || from == n.me {
		return
	}
	if all, e := cut.Unpart(m.Terms); e == api.OK {
		n.enter(api.View{Id: m.Id, Members: slices.Clone(m.Members)}, all)
	}
}

func (n *plain) takeCast(from int, m list.Message) {
	if m.Number < 1 || len(m.Terms) != 1 || from == n.me {
		return
	}
	if plainAbove(m.Id, n.view.Id) {
		if len(n.early) < 256 {
			n.early = append(n.early, plainEarly{from, list.Message{Kind: 6, Id: m.Id, Number: m.Number, Terms: slices.Clone(m.Terms)}})
		}
		return
	}
	if m.Id == n.view.Id && !n.flushing() && slices.Contains(n.view.Members, from) && m.Number == len(n.logs[from])+1 {
		n.deliver(from, m.Terms[0])
	}
}
