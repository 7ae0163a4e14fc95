package list

import (
	"gemot/api"
	"gemot/parts"
	"gemot/term"
)

// How far the numbers of a message go.
const (
	maxKind   = 20
	maxNumber = 1<<31 - 1 // epochs, too
)

// headNumbers is how many numbers stand ahead of a message's members.
const headNumbers = 7

func within(n, least, most int) bool { return n >= least && n <= most }

func rightId(id api.Id) bool {
	return within(id.Epoch, 0, maxNumber) && within(id.Coord, 0, api.MaxProcs)
}

// rise tells whether members do, 1 to 8 each.
func rise(members []int) bool {
	ahead := 0
	for _, p := range members {
		if !within(p, ahead+1, api.MaxProcs) {
			return false
		}
		ahead = p
	}
	return true
}

// rowOf is a right message as a row of terms.
func rowOf(m Message) []term.Term {
	head := [headNumbers]int{m.Kind, m.Id.Epoch, m.Id.Coord, m.Old.Epoch, m.Old.Coord, m.Number, len(m.Members)}
	l := make([]term.Term, 0, len(head)+len(m.Members)+len(m.Terms))
	for _, n := range head {
		l = append(l, term.Number(uint64(n)))
	}
	for _, p := range m.Members {
		l = append(l, term.Number(uint64(p)))
	}
	return append(l, m.Terms...)
}

// messageOf reads a row as a message, which need not be right; false, if a number lacks.
func messageOf(l []term.Term) (Message, bool) {
	head, behind, ok := numbers(l, headNumbers)
	if !ok {
		return Message{}, false
	}
	members, terms, ok := numbers(behind, head[6])
	if !ok {
		return Message{}, false
	}
	return Message{
		Kind:    head[0],
		Id:      api.Id{Epoch: head[1], Coord: head[2]},
		Old:     api.Id{Epoch: head[3], Coord: head[4]},
		Number:  head[5],
		Members: members,
		Terms:   terms,
	}, true
}

// numbers reads so many numbers at the beginning of l, and tells what is behind them. One that an int does not hold goes round to below 0, and no number of a message is that.
func numbers(l []term.Term, many int) ([]int, []term.Term, bool) {
	if !within(many, 0, len(l)) {
		return nil, nil, false
	}
	read := make([]int, many)
	for i, t := range l[:many] {
		if parts.Kind(t) != kindNumber {
			return nil, nil, false
		}
		n, _ := parts.Value(t)
		read[i] = int(n)
	}
	return read, l[many:], true
}
