package term

import "gemot/api"

// Right tells whether a term is, Depth how deep it is, Take reads one.
func Right(t Term) bool { return Depth(t) > 0 }

func Depth(t Term) int {
	if len(t) > api.MaxBytes {
		return 0
	}
	size, depth, e := read(string(t))
	if e != api.OK || size != len(t) {
		return 0
	}
	return depth
}

func Take(s string) (Term, string, api.Errno) {
	size, _, e := read(s)
	if e != api.OK {
		return "", "", e
	}
	if size > api.MaxBytes {
		return "", "", api.ErrLong
	}
	return Term(s[:size]), s[size:], api.OK
}

// usualDepth is how many terms are open in one another, mostly: so many are kept without memory of their own.
const usualDepth = 16

// frame is a term that has begun, and whose parts are not all read yet.
type frame struct {
	kind  byte
	left  int    // parts that are still to come
	from  int    // where the part that is read begins
	ahead string // the part ahead of it
}

// read tells how many bytes the term that s begins with has, and its depth. It keeps the terms that are open itself, so that the first fault on the way is the one that is told.
func read(s string) (int, int, api.Errno) {
	open := make([]frame, 0, usualDepth)
	at, depth := 0, 0
reading:
	for {
		if inKey(open) && !beginsElement(s[at:]) {
			return 0, 0, api.ErrForm
		}
		if len(open) == api.MaxDepth {
			return 0, 0, api.ErrDeep
		}
		size, parts := begin(s[at:])
		if size == 0 {
			return 0, 0, api.ErrForm
		}
		kind := s[at]
		at += size
		depth = max(depth, len(open)+1)
		if parts > 0 {
			open = append(open, frame{kind: kind, left: parts, from: at})
			continue reading
		}
		for {
			if len(open) == 0 {
				break reading
			}
			last := &open[len(open)-1]
			if !last.took(s, at) {
				return 0, 0, api.ErrForm
			}
			if last.left > 0 {
				continue reading
			}
			open = open[:len(open)-1]
		}
	}
	return at, depth, api.OK
}

// took has the part end at that place; false, if it may not stand behind the one ahead of it.
func (f *frame) took(s string, at int) bool {
	part := s[f.from:at]
	if f.kind == kindPower && part < f.ahead {
		return false
	}
	f.ahead, f.from = part, at
	f.left--
	return true
}

// inKey tells whether what comes next must be an element.
func inKey(open []frame) bool { return len(open) > 0 && open[len(open)-1].kind == kindKey }

func beginsElement(s string) bool { return s != "" && (s[0] == kindGen || s[0] == kindPower) }

// begin tells how many bytes of a term stand ahead of its parts, and how many parts these are; 0, if s cannot be the beginning of a term, or ends too early.
func begin(s string) (int, int) {
	size, parts := headOf(s)
	if size > len(s) {
		return 0, 0
	}
	return size, parts
}

func headOf(s string) (int, int) {
	if s == "" {
		return 0, 0
	}
	switch s[0] {
	case kindGen:
		return 1, 0
	case kindName, kindNumber:
		return wordBytes, 0
	case kindText:
		return textHead(s), 0
	case kindPrivate:
		if len(s) >= privateBytes && s[1] >= 1 && s[1] <= api.MaxProcs {
			return privateBytes, 0
		}
	case kindPower:
		if len(s) >= powerBytes && s[1] >= 1 && s[1] <= MaxPowers {
			return powerBytes, int(s[1])
		}
	case kindKey, kindHash:
		return 1, 1
	case kindPair, kindSignature:
		return 1, 2
	case kindSeal:
		return 1, 3
	}
	return 0, 0
}

func textHead(s string) int {
	if len(s) < textBytes {
		return 0
	}
	many := int(s[1])<<8 | int(s[2])
	if many > api.MaxText {
		return 0
	}
	return textBytes + many
}
