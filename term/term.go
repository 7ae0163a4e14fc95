// Package term: what is said, as it stands for itself: layer 1: see shared/doc/01-term.md.
package term

import (
	"slices"
	"strings"

	"gemot/api"
)

// MaxPowers is how many exponents a power has.
const MaxPowers = 32

// Term is a term's bytes.
type Term string

// The first byte of a term says of which kind it is.
const (
	kindName      = 'n'
	kindNumber    = 'u'
	kindText      = 't'
	kindPrivate   = 'i'
	kindGen       = 'g'
	kindPower     = 'e'
	kindKey       = 'k'
	kindPair      = 'p'
	kindHash      = 'h'
	kindSeal      = 's'
	kindSignature = 'x'
)

// How many bytes stand ahead of what a term has in it, its kind among them.
const (
	wordBytes    = 9
	textBytes    = 3
	privateBytes = 2
	powerBytes   = 2
)

func Name(n uint64) Term { return word(kindName, n) }

func Number(n uint64) Term { return word(kindNumber, n) }

func Text(s string) (Term, api.Errno) {
	if len(s) > api.MaxText {
		return "", api.ErrLong
	}
	return Term([]byte{kindText, byte(len(s) >> 8), byte(len(s))}) + Term(s), api.OK
}

func Private(p int) (Term, api.Errno) {
	if p < 1 || p > api.MaxProcs {
		return "", api.ErrArg
	}
	return Term([]byte{kindPrivate, byte(p)}), api.OK
}

// Gen is the generator, Power an element raised by one exponent more, Key an element as a key.
func Gen() Term { return Term([]byte{kindGen}) }

func Power(base, by Term) (Term, api.Errno) {
	if !beginsElement(string(base)) || !Right(base) || !Right(by) {
		return "", api.ErrArg
	}
	exponents := exponentsOf(base)
	if len(exponents) == MaxPowers {
		return "", api.ErrLong
	}
	place, _ := slices.BinarySearch(exponents, by)
	exponents = slices.Insert(exponents, place, by)
	return put([]byte{kindPower, byte(len(exponents))}, exponents...)
}

func Key(element Term) (Term, api.Errno) {
	if !beginsElement(string(element)) {
		return "", api.ErrArg
	}
	return put([]byte{kindKey}, element)
}

// Pair, Hash, Seal and Sign make terms of terms.
func Pair(a, b Term) (Term, api.Errno) { return put([]byte{kindPair}, a, b) }

func Hash(a Term) (Term, api.Errno) { return put([]byte{kindHash}, a) }

func Seal(key, nonce, text Term) (Term, api.Errno) { return put([]byte{kindSeal}, key, nonce, text) }

func Sign(key, text Term) (Term, api.Errno) { return put([]byte{kindSignature}, key, text) }

func word(kind byte, n uint64) Term {
	b := [wordBytes]byte{kind}
	for i := wordBytes - 1; i > 0; i-- {
		b[i] = byte(n)
		n >>= 8
	}
	return Term(b[:])
}

// exponentsOf counts on element being right.
func exponentsOf(element Term) []Term {
	if element[0] == kindGen {
		return nil
	}
	rest := string(element[powerBytes:])
	exponents := make([]Term, 0, MaxPowers)
	for range int(element[1]) {
		size, _, _ := read(rest)
		exponents = append(exponents, Term(rest[:size]))
		rest = rest[size:]
	}
	return exponents
}

// put looks at all parts ahead of the bounds: a part that is not right is told first.
func put(head []byte, parts ...Term) (Term, api.Errno) {
	size, deepest := len(head), 0
	for _, part := range parts {
		depth := Depth(part)
		if depth == 0 {
			return "", api.ErrArg
		}
		size += len(part)
		deepest = max(deepest, depth)
	}
	if size > api.MaxBytes {
		return "", api.ErrLong
	}
	if deepest+1 > api.MaxDepth {
		return "", api.ErrDeep
	}
	var b strings.Builder
	b.Grow(size)
	b.Write(head)
	for _, part := range parts {
		b.WriteString(string(part))
	}
	return Term(b.String()), api.OK
}
