package know

import (
	"slices"

	"gemot/parts"
	"gemot/term"
)

// The first byte of a term says of which kind it is; these are the kinds that are told apart here.
const (
	kindName      = 'n'
	kindNumber    = 'u'
	kindText      = 't'
	kindPrivate   = 'i'
	kindGen       = 'g'
	kindPower     = 'e'
	kindPair      = 'p'
	kindSeal      = 's'
	kindSignature = 'x'
)

// standing is how a term stands to a row.
type standing int

const (
	unknown standing = iota // as far as it was asked
	made                    // not one of the row, but found to be made of it: more terms in the row don't change that
	known                   // one of the row
)

// row is right terms, and what was found to be made of them.
type row struct {
	standing map[term.Term]standing
	powers   map[term.Term][][]term.Term // by exponent: the exponents of each power of the row in which it is
}

func newRow() *row {
	return &row{standing: map[term.Term]standing{}, powers: map[term.Term][][]term.Term{}}
}

// add counts on t being right; false, if it is one of the row already.
func (r *row) add(t term.Term) bool {
	if r.standing[t] == known {
		return false
	}
	r.standing[t] = known
	if t[0] == kindPower {
		exponents := parts.Of(t)
		for _, x := range slices.Compact(slices.Clone(exponents)) {
			r.powers[x] = append(r.powers[x], exponents)
		}
	}
	return true
}

// known is the terms of the row, by bytes.
func (r *row) known() []term.Term {
	var l []term.Term
	for t, s := range r.standing {
		if s == known {
			l = append(l, t)
		}
	}
	slices.Sort(l)
	return l
}

// makes tells whether t, which is right, can be made of the row.
func (r *row) makes(t term.Term) bool {
	if r.standing[t] != unknown {
		return true
	}
	can := false
	switch t[0] {
	case kindGen, kindNumber, kindText:
		return true
	case kindName, kindPrivate:
		return false
	case kindPower:
		can = r.makesPower(parts.Of(t))
	default:
		can = r.makesAll(parts.Of(t))
	}
	if can {
		r.standing[t] = made
	}
	return can
}

func (r *row) makesAll(l []term.Term) bool {
	for _, t := range l {
		if !r.makes(t) {
			return false
		}
	}
	return true
}

// makesPower looks for a power of the row to begin with, where an exponent cannot be made: all such must be in it, and nothing that is too much.
func (r *row) makesPower(exponents []term.Term) bool {
	var lacking []term.Term
	for _, x := range exponents {
		if !r.makes(x) {
			lacking = append(lacking, x)
		}
	}
	if len(lacking) == 0 {
		return true
	}
	for _, base := range r.powers[lacking[0]] {
		if among(lacking, base) && among(base, exponents) {
			return true
		}
	}
	return false
}

// among tells whether all of a are in b, each as often at most; both are by bytes.
func among(a, b []term.Term) bool {
	for _, t := range a {
		place, there := slices.BinarySearch(b, t)
		if !there {
			return false
		}
		b = b[place+1:]
	}
	return true
}
