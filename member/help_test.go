package member_test

import (
	"fmt"
	"slices"
	"strconv"
	"strings"
	"testing"

	"gemot/api"
	"gemot/cut"
	"gemot/list"
	"gemot/member"
	"gemot/term"
)

type row = []term.Term

const top = 1<<31 - 1 // the greatest epoch that a message holds

func id(epoch, coord int) api.Id { return api.Id{Epoch: epoch, Coord: coord} }

// show is a value as it prints, with bytes of terms as they are escaped.
func show(v any) string {
	s := strconv.QuoteToASCII(fmt.Sprint(v))
	return s[1:min(len(s)-1, 600)]
}

// hashes is g behind so many h: a term of that depth and as many bytes.
func hashes(depth int) term.Term { return term.Term(strings.Repeat("h", depth-1) + "g") }

// wide is a term of just that many bytes (at least 3) that is shallow: halves in pairs.
func wide(size int) term.Term {
	if size <= api.MaxText+3 {
		return term.Term("t\x00" + string(rune(size-3)) + strings.Repeat("w", size-3))
	}
	left := (size - 1) / 2
	return "p" + wide(left) + wide(size-1-left)
}

// wrongs are texts that are no right terms.
func wrongs() row {
	return row{"", "q", "gg", " g", "u", "h", "pg", "i\x00", "i\x09", "e\x00", hashes(401), wide(20001), term.Term(strings.Repeat("h", 1<<20))}
}

func begin(t *testing.T, me int) *member.Node {
	t.Helper()
	n, e := member.New(me)
	if n == nil || e != api.OK {
		t.Fatalf("New(%d): error %d", me, e)
	}
	return n
}

func log(sender int, items ...term.Term) cut.Log { return cut.Log{Sender: sender, Items: items} }

func part(epoch, coord, sender int, items ...term.Term) cut.Part {
	return cut.Part{Old: id(epoch, coord), Sender: sender, Items: items}
}

func logs(l ...cut.Log) []cut.Log { return l }

func put(l ...cut.Log) row {
	terms, e := cut.Put(l)
	if e != api.OK {
		panic(e)
	}
	return terms
}

func join(l ...cut.Part) row {
	terms, e := cut.Parts(l)
	if e != api.OK {
		panic(e)
	}
	return terms
}

func propose(of api.Id, members ...int) list.Message {
	return list.Message{Kind: 3, Id: of, Members: members}
}

func tell(of, old api.Id, terms ...term.Term) list.Message {
	return list.Message{Kind: 4, Id: of, Old: old, Terms: terms}
}

func install(of api.Id, members []int, terms ...term.Term) list.Message {
	return list.Message{Kind: 5, Id: of, Members: members, Terms: terms}
}

func casting(of api.Id, number int, terms ...term.Term) list.Message {
	return list.Message{Kind: 6, Id: of, Number: number, Terms: terms}
}

// out is a message to one, deliver and enter are events.
func out(to int, m list.Message) member.Out { return member.Out{To: to, M: m} }

func deliver(v api.View, sender, number int, item term.Term) member.Event {
	return member.Event{Kind: 1, View: v, Sender: sender, Number: number, Item: item}
}

func enter(v api.View) member.Event { return member.Event{Kind: 2, View: v} }

func of(epoch, coord int, members ...int) api.View {
	return api.View{Id: id(epoch, coord), Members: members}
}

func sameView(a, b api.View) bool { return a.Id == b.Id && slices.Equal(a.Members, b.Members) }

func sameMessage(a, b list.Message) bool {
	return a.Kind == b.Kind && a.Id == b.Id && a.Old == b.Old && a.Number == b.Number && slices.Equal(a.Members, b.Members) && slices.Equal(a.Terms, b.Terms)
}

func sameOuts(a, b []member.Out) bool {
	return slices.EqualFunc(a, b, func(x, y member.Out) bool { return x.To == y.To && sameMessage(x.M, y.M) })
}

func sameEvents(a, b []member.Event) bool {
	return slices.EqualFunc(a, b, func(x, y member.Event) bool {
		return x.Kind == y.Kind && sameView(x.View, y.View) && x.Sender == y.Sender && x.Number == y.Number && x.Item == y.Item
	})
}

func sameLogs(a, b []cut.Log) bool {
	return slices.EqualFunc(a, b, func(x, y cut.Log) bool { return x.Sender == y.Sender && slices.Equal(x.Items, y.Items) })
}

// state is all that a node tells of itself.
type state struct {
	view     api.View
	promised api.Id
	flushing bool
	logs     []cut.Log
}

func stateOf(n *member.Node) state {
	return state{n.View(), n.Promised(), n.Flushing(), n.Logs()}
}

func sameState(a, b state) bool {
	return sameView(a.view, b.view) && a.promised == b.promised && a.flushing == b.flushing && sameLogs(a.logs, b.logs)
}

// told is what a call told: it fails, if that is not what is wanted.
func told(t *testing.T, what string, outs []member.Out, events []member.Event, wantOuts []member.Out, wantEvents []member.Event) {
	t.Helper()
	if !sameOuts(outs, wantOuts) {
		t.Fatalf("%s tells %s, want %s", what, show(outs), show(wantOuts))
	}
	if !sameEvents(events, wantEvents) {
		t.Fatalf("%s meets %s, want %s", what, show(events), show(wantEvents))
	}
}

func take(t *testing.T, n *member.Node, from int, m list.Message, wantOuts []member.Out, wantEvents []member.Event) {
	t.Helper()
	outs, events := n.Take(from, m)
	told(t, "a message of kind "+show(m.Kind)+", "+show(m.Id)+" from "+show(from), outs, events, wantOuts, wantEvents)
}

func suggest(t *testing.T, n *member.Node, members []int, wantOuts []member.Out, wantEvents []member.Event) {
	t.Helper()
	outs, events := n.Suggest(members)
	told(t, "Suggest of "+show(members), outs, events, wantOuts, wantEvents)
}

func is(t *testing.T, n *member.Node, want state) {
	t.Helper()
	if got := stateOf(n); !sameState(got, want) {
		t.Fatalf("it is %s, want %s", show(got), show(want))
	}
}

// still takes what must change nothing, and tell nothing.
func still(t *testing.T, n *member.Node, from int, m list.Message) {
	t.Helper()
	was := stateOf(n)
	take(t, n, from, m, nil, nil)
	is(t, n, was)
}

// inView is a node in a view of these members: one that the first of the others made; or, if there is no other one, that it made itself.
func inView(t *testing.T, me, epoch int, members ...int) *member.Node {
	t.Helper()
	n := begin(t, me)
	at := slices.IndexFunc(members, func(p int) bool { return p != me })
	if at < 0 {
		n.Heed(id(epoch-1, 9))
		suggest(t, n, members, nil, []member.Event{enter(of(epoch, me, members...))})
		return n
	}
	coord := members[at]
	v := of(epoch, coord, members...)
	take(t, n, coord, propose(v.Id, members...), []member.Out{out(coord, tell(v.Id, id(0, me)))}, nil)
	take(t, n, coord, install(v.Id, members), nil, []member.Event{enter(v)})
	return n
}
