package member

import (
	"gemot/api"
	"gemot/cut"
	"gemot/list"
	"gemot/term"
	"gemot/view"
)

// letter is a cast that another one sent.
type letter struct {
	from, number int
	of           api.Id
	item         term.Term
}

func (n *Node) takePropose(from int, m list.Message) []Out {
	if from != m.Id.Coord || !view.Row(m.Members) || !view.Has(m.Members, from) || !view.Has(m.Members, n.me) {
		return nil
	}
	if !view.Less(n.promised.Id, m.Id) || m.Id.Epoch >= maxEpoch {
		return nil
	}
	n.promise(m.Id, m.Members)
	n.plan = nil
	terms, wrong := cut.Put(n.Logs())
	if wrong != api.OK {
		return nil
	}
	return outs(list.Message{Kind: Tell, Id: m.Id, Old: n.view.Id, Terms: terms}, []int{from})
}

func (n *Node) takeTell(from int, m list.Message) ([]Out, []Event) {
	if n.plan == nil || m.Id != n.promised.Id || !view.Has(n.promised.Members, from) {
		return nil, nil
	}
	if _, told := n.plan[from]; told {
		return nil, nil
	}
	logs, wrong := cut.Take(m.Terms)
	if wrong != api.OK {
		return nil, nil
	}
	n.plan[from] = cut.Report{From: from, Old: m.Old, Logs: logs}
	if !n.allTold() {
		return nil, nil
	}
	return n.finish()
}

func (n *Node) takeInstall(from int, m list.Message) []Event {
	if from == n.me || from != m.Id.Coord || m.Id != n.promised.Id || !n.Flushing() || !view.Same(m.Members, n.promised.Members) {
		return nil
	}
	all, wrong := cut.Unpart(m.Terms)
	if wrong != api.OK {
		return nil
	}
	return n.enter(all)
}

func (n *Node) takeCast(from int, m list.Message) []Event {
	if m.Number < 1 || len(m.Terms) != 1 || from == n.me {
		return nil
	}
	c := letter{from: from, number: m.Number, of: m.Id, item: m.Terms[0]}
	if !view.Less(n.view.Id, c.of) {
		return n.hear(c)
	}
	if len(n.early) < MaxEarly {
		n.early = append(n.early, c)
	}
	return nil
}

// hear takes a cast of no view that is still to come.
func (n *Node) hear(c letter) []Event {
	if c.of != n.view.Id || n.Flushing() || !view.Has(n.view.Members, c.from) || c.number != len(n.logs[c.from])+1 {
		return nil
	}
	return []Event{n.add(c.from, c.item)}
}
