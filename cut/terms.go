package cut

import (
	"gemot/api"
	"gemot/list"
	"gemot/parts"
	"gemot/term"
)

const maxEpoch = 1<<31 - 1

// How many numbers stand ahead of the items of a log, and of a part.
const (
	logHead  = 1
	partHead = 3
)

// Put and Take are logs as terms, Parts and Unpart parts as terms.
func Put(l []Log) ([]term.Term, api.Errno) {
	if !rightLogs(l) {
		return nil, api.ErrArg
	}
	var rows []term.Term
	for _, log := range l {
		row, e := join(log.Items, log.Sender)
		if e != api.OK {
			return nil, api.ErrArg
		}
		rows = append(rows, row)
	}
	return rows, api.OK
}

func Take(l []term.Term) ([]Log, api.Errno) {
	var logs []Log
	for _, row := range l {
		head, items, ok := split(row, logHead)
		if !ok {
			return nil, api.ErrForm
		}
		logs = append(logs, Log{Sender: head[0], Items: items})
	}
	if !rightLogs(logs) {
		return nil, api.ErrForm
	}
	return logs, api.OK
}

func Parts(l []Part) ([]term.Term, api.Errno) {
	if !rightParts(l) {
		return nil, api.ErrArg
	}
	var rows []term.Term
	for _, part := range l {
		row, e := join(part.Items, part.Old.Epoch, part.Old.Coord, part.Sender)
		if e != api.OK {
			return nil, api.ErrArg
		}
		rows = append(rows, row)
	}
	return rows, api.OK
}

func Unpart(l []term.Term) ([]Part, api.Errno) {
	var told []Part
	for _, row := range l {
		head, items, ok := split(row, partHead)
		if !ok {
			return nil, api.ErrForm
		}
		told = append(told, Part{Old: api.Id{Epoch: head[0], Coord: head[1]}, Sender: head[2], Items: items})
	}
	if !rightParts(told) {
		return nil, api.ErrForm
	}
	return told, api.OK
}

// rightLogs tells whether senders rise, and each has items.
func rightLogs(l []Log) bool {
	for i, log := range l {
		if !isProcess(log.Sender) || len(log.Items) == 0 || i > 0 && l[i-1].Sender >= log.Sender {
			return false
		}
	}
	return true
}

// rightParts tells whether parts rise, and each has items.
func rightParts(l []Part) bool {
	for i, part := range l {
		if !rightOld(part.Old) || !isProcess(part.Sender) || len(part.Items) == 0 || i > 0 && order(l[i-1], part) >= 0 {
			return false
		}
	}
	return true
}

func isProcess(p int) bool { return p >= 1 && p <= api.MaxProcs }

func rightOld(id api.Id) bool {
	return id.Epoch >= 0 && id.Epoch <= maxEpoch && id.Coord >= 0 && id.Coord <= api.MaxProcs
}

// join is numbers, and items behind them, as one row.
func join(items []term.Term, numbers ...int) (term.Term, api.Errno) {
	row := make([]term.Term, 0, len(numbers)+len(items))
	for _, n := range numbers {
		row = append(row, term.Number(uint64(n)))
	}
	return list.Put(append(row, items...))
}

// split reads a row of so many numbers, and tells the items behind them. A number that an int does not hold goes round to below 0, and no number of a log or of a part is that.
func split(t term.Term, many int) ([]int, []term.Term, bool) {
	row, e := list.Take(t)
	if e != api.OK || len(row) < many {
		return nil, nil, false
	}
	numbers := make([]int, many)
	for i := range numbers {
		n, _ := parts.Value(row[i])
		// Held against the number itself: a name has a value, too.
		if row[i] != term.Number(n) {
			return nil, nil, false
		}
		numbers[i] = int(n)
	}
	return numbers, row[many:], true
}
