package member

import (
	"slices"

	"gemot/api"
	"gemot/cut"
	"gemot/list"
	"gemot/term"
	"gemot/view"
)

// settled tells whether all is done, or on its way, for these to be together.
func (n *Node) settled(members []int) bool {
	if n.seen != n.promised.Id || n.plan == nil && n.Flushing() {
		return false
	}
	// With neither a plan nor a flush, the promised view is the node's view.
	return view.Same(members, n.promised.Members)
}

// promise keeps members of its own: those that are handed in may change.
func (n *Node) promise(id api.Id, members []int) {
	n.promised = api.View{Id: id, Members: slices.Clone(members)}
	n.Heed(id)
}

func (n *Node) allTold() bool { return len(n.plan) == len(n.promised.Members) }

// finish counts on all having told.
func (n *Node) finish() ([]Out, []Event) {
	var reports []cut.Report
	for _, p := range n.promised.Members {
		reports = append(reports, n.plan[p])
	}
	all := cut.Cut(reports)
	var told []Out
	if terms, wrong := cut.Parts(all); wrong == api.OK {
		told = n.toOthers(list.Message{Kind: Install, Id: n.promised.Id, Members: n.promised.Members, Terms: terms}, n.promised.Members)
	}
	return told, n.enter(all)
}

// enter goes into the promised view.
func (n *Node) enter(all []cut.Part) []Event {
	var events []Event
	for _, lacking := range cut.Missing(all, n.view.Id, n.Logs()) {
		if lacking.Sender == n.me {
			continue
		}
		for _, item := range lacking.Items {
			events = append(events, n.add(lacking.Sender, item))
		}
	}
	n.view, n.plan = n.promised, nil
	clear(n.logs[:])
	events = append(events, Event{Kind: Enter, View: n.View()})
	return append(events, n.hearEarly()...)
}

// hearEarly goes through what came ahead of the view that was just entered; what is for a view still to come goes on waiting.
func (n *Node) hearEarly() []Event {
	var events []Event
	var rest []letter
early:
	for _, c := range n.early {
		switch {
		case view.Less(n.view.Id, c.of):
			rest = append(rest, c)
			continue early
		case c.of != n.view.Id:
			continue early
		}
		events = append(events, n.hear(c)...)
	}
	n.early = rest
	return events
}

// add has an item be the last one of its sender's log.
func (n *Node) add(sender int, item term.Term) Event {
	n.logs[sender] = append(n.logs[sender], item)
	return Event{Kind: Deliver, View: n.View(), Sender: sender, Number: len(n.logs[sender]), Item: item}
}

func (n *Node) toOthers(m list.Message, members []int) []Out {
	return outs(m, view.Without(members, []int{n.me}))
}

// outs is a message to each of these, or to none, if it cannot be packed. Each has lists of its own, so that one may be changed and the others stay.
func outs(m list.Message, to []int) []Out {
	if _, wrong := list.Pack(m); wrong != api.OK {
		return nil
	}
	var l []Out
	for _, p := range to {
		own := m
		own.Members, own.Terms = slices.Clone(m.Members), slices.Clone(m.Terms)
		l = append(l, Out{To: p, M: own})
	}
	return l
}
