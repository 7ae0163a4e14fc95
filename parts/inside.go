package parts

import (
	"iter"

	"gemot/api"
	"gemot/term"
)

// The first byte of a term says of which kind it is; these are the kinds that are told apart here.
const (
	kindName      = 'n'
	kindNumber    = 'u'
	kindText      = 't'
	kindPower     = 'e'
	kindKey       = 'k'
	kindPair      = 'p'
	kindHash      = 'h'
	kindSeal      = 's'
	kindSignature = 'x'
)

// How many bytes stand ahead of what a term says, or of the terms in it.
const (
	wordHead  = 1
	textHead  = 3
	powerHead = 2
	otherHead = 1
)

// inside tells the terms that stand in t, next to it, in order. It counts on t being right: nothing stands behind the last of them.
func inside(t term.Term) iter.Seq[term.Term] {
	return func(yield func(term.Term) bool) {
		for rest := bytesInside(t); rest != ""; {
			part, behind, e := term.Take(rest)
			if e != api.OK || !yield(part) {
				return
			}
			rest = behind
		}
	}
}

// bytesInside is the bytes of all terms in t: none, if t is of a kind that has none.
func bytesInside(t term.Term) string {
	switch t[0] {
	case kindPower:
		return string(t[powerHead:])
	case kindKey, kindPair, kindHash, kindSeal, kindSignature:
		return string(t[otherHead:])
	}
	return ""
}
