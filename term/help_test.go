package term_test

import (
	"math/rand"
	"strings"
	"testing"

	"gemot/api"
	"gemot/term"
)

// made tells whether a call answered just that: a term and OK, or an error and nothing.
func made(t *testing.T, what string, got term.Term, e api.Errno, want term.Term, wantErr api.Errno) {
	t.Helper()
	if got != want || e != wantErr {
		t.Errorf("%s: %s %d, want %s %d", what, short(string(got)), e, short(string(want)), wantErr)
	}
}

func short(s string) string {
	if len(s) > 40 {
		s = s[:40] + ".."
	}
	return "\"" + strings.ToValidUTF8(s, "?") + "\""
}

func must(t *testing.T) func(term.Term, api.Errno) term.Term {
	return func(a term.Term, e api.Errno) term.Term {
		t.Helper()
		if e != api.OK {
			t.Fatalf("error %d", e)
		}
		return a
	}
}

// hashes is g behind so many h: a term of that depth and as many bytes.
func hashes(depth int) term.Term { return term.Term(strings.Repeat("h", depth-1) + "g") }

// wide is a term of just that many bytes (at least 3) that is shallow: halves in pairs.
func wide(size int) term.Term {
	if size <= api.MaxText+3 {
		return term.Term("t\x00" + string(rune(size-3)) + strings.Repeat("w", size-3))
	}
	left := (size - 1) / 2
	return "p" + wide(left) + wide(size-1-left)
}

// element is a power of just that many bytes, with one exponent.
func element(size int) term.Term { return "e\x01" + wide(size-2) }

// spell reads s as the chapter's words say it, by recursion: how many bytes, how deep, or the first fault; in is how many terms it stands in.
func spell(s string, in int) (int, int, api.Errno) {
	if in == 400 {
		return 0, 0, api.ErrDeep
	}
	if s == "" {
		return 0, 0, api.ErrForm
	}
	leaf := func(size int) (int, int, api.Errno) {
		if len(s) < size {
			return 0, 0, api.ErrForm
		}
		return size, 1, api.OK
	}
	switch s[0] {
	case 'g':
		return leaf(1)
	case 'n', 'u':
		return leaf(9)
	case 'i':
		if len(s) < 2 || !strings.Contains("\x01\x02\x03\x04\x05\x06\x07\x08", s[1:2]) {
			return 0, 0, api.ErrForm
		}
		return leaf(2)
	case 't':
		if len(s) < 3 || s[1] != 0 || s[2] > 100 {
			return 0, 0, api.ErrForm
		}
		return leaf(3 + int(s[2]))
	case 'e':
		if len(s) < 2 || s[1] == 0 || s[1] > 32 {
			return 0, 0, api.ErrForm
		}
		return spellParts(s, in, 2, int(s[1]))
	case 'k':
		if len(s) < 2 || s[1] != 'g' && s[1] != 'e' {
			return 0, 0, api.ErrForm
		}
		return spellParts(s, in, 1, 1)
	}
	many := strings.IndexByte("?hp xs", s[0])
	switch many {
	case 1, 2:
		return spellParts(s, in, 1, many)
	case 4, 5:
		return spellParts(s, in, 1, many-2)
	}
	return 0, 0, api.ErrForm
}

func spellParts(s string, in, at, many int) (int, int, api.Errno) {
	depth, ahead := 0, ""
	for range many {
		size, d, e := spell(s[at:], in+1)
		if e != api.OK {
			return 0, 0, e
		}
		part := s[at : at+size]
		if s[0] == 'e' && strings.Compare(ahead, part) > 0 {
			return 0, 0, api.ErrForm
		}
		ahead, at, depth = part, at+size, max(depth, d)
	}
	return at, depth + 1, api.OK
}

// checkTake holds Take, Right and Depth of s against its spelling.
func checkTake(t *testing.T, s string) {
	t.Helper()
	size, depth, want := spell(s, 0)
	if want == api.OK && size > 20000 {
		size, depth, want = 0, 0, api.ErrLong
	}
	a, rest, e := term.Take(s)
	if want != api.OK {
		if a != "" || rest != "" || e != want {
			t.Fatalf("Take(%q) tells %q %q %d, want error %d", s, a, rest, e, want)
		}
	} else if e != api.OK || string(a) != s[:size] || rest != s[size:] {
		t.Fatalf("Take(%q) tells %q %q %d, want %q", s, a, rest, e, s[:size])
	}
	whole := want == api.OK && size == len(s)
	if !whole {
		depth = 0
	}
	if right, d := term.Right(term.Term(s)), term.Depth(term.Term(s)); right != whole || d != depth {
		t.Fatalf("%q: Right %v Depth %d, want %v %d", s, right, d, whole, depth)
	}
}

// texts calls f with each text of at most that many of these bytes.
func texts(alphabet string, most int, f func(string)) {
	var grow func(s string)
	grow = func(s string) {
		f(s)
		if len(s) < most {
			for i := range len(alphabet) {
				grow(s + alphabet[i:i+1])
			}
		}
	}
	grow("")
}

// some is a right term, by chance that is the same each time; none deeper than deep.
func some(r *rand.Rand, deep int) term.Term {
	if deep == 1 || r.Intn(4) == 0 {
		switch r.Intn(5) {
		case 0:
			return term.Name(uint64(r.Intn(3)))
		case 1:
			return term.Number(r.Uint64())
		case 2:
			a, _ := term.Text(strings.Repeat("x", r.Intn(101)))
			return a
		case 3:
			a, _ := term.Private(1 + r.Intn(8))
			return a
		}
		return term.Gen()
	}
	var a term.Term
	switch r.Intn(6) {
	case 0:
		a, _ = term.Pair(some(r, deep-1), some(r, deep-1))
	case 1:
		a, _ = term.Hash(some(r, deep-1))
	case 2:
		a, _ = term.Seal(some(r, deep-1), some(r, deep-1), some(r, deep-1))
	case 3:
		a, _ = term.Sign(some(r, deep-1), some(r, deep-1))
	case 4:
		a = someElement(r, deep)
	case 5:
		a, _ = term.Key(someElement(r, deep-1))
	}
	return a
}

func someElement(r *rand.Rand, deep int) term.Term {
	a := term.Gen()
	if deep > 1 {
		for range r.Intn(5) {
			a, _ = term.Power(a, some(r, deep-1))
		}
	}
	return a
}
