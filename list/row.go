package list

import (
	"iter"
	"slices"

	"gemot/api"
	"gemot/term"
)

// The first byte of a term says of which kind it is; these are the kinds that are told apart here.
const (
	kindPair   = 'p'
	kindNumber = 'u'
)

// pairHead is what stands ahead of a pair's parts.
const pairHead = term.Term("p")

// measure tells how many bytes Put's term of l has, or Put's error. The bounds are held against the whole: a pair by pair making would tell a row that is deep behind and too long ahead as too deep, and would read what is behind again for each pair.
func measure(l []term.Term) (int, api.Errno) {
	if len(l) > MaxItems {
		return 0, api.ErrArg
	}
	size, deepest := len(term.Number(0)), 1
	for i, t := range l {
		depth := term.Depth(t)
		if depth == 0 {
			return 0, api.ErrArg
		}
		size += len(pairHead) + len(t)
		deepest = max(deepest, depth+i+1) // it stands in a pair of its own, and in those of all ahead of it
	}
	if size > api.MaxBytes {
		return 0, api.ErrLong
	}
	if deepest > api.MaxDepth {
		return 0, api.ErrDeep
	}
	return size, api.OK
}

// fromBehind tells the pieces of which Put's term of l is put together, the last one first.
func fromBehind(l []term.Term) iter.Seq[term.Term] {
	return func(yield func(term.Term) bool) {
		if !yield(term.Number(0)) {
			return
		}
		for _, t := range slices.Backward(l) {
			if !yield(t) || !yield(pairHead) {
				return
			}
		}
	}
}
