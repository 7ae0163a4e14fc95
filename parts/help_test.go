package parts_test

import (
	"math/rand"
	"slices"
	"strings"
	"testing"

	"gemot/api"
	"gemot/parts"
	"gemot/term"
)

func short(s term.Term) string {
	if len(s) > 40 {
		s = s[:40] + ".."
	}
	return "\"" + strings.ToValidUTF8(string(s), "?") + "\""
}

// must is the term that a call made, where the test counts on there being one.
func must(a term.Term, e api.Errno) term.Term {
	if e != api.OK {
		panic(e)
	}
	return a
}

// hashes is g behind so many h: a term of that depth and as many bytes.
func hashes(depth int) term.Term { return term.Term(strings.Repeat("h", depth-1) + "g") }

// wide is a term of just that many bytes (at least 3) that is shallow: halves in pairs.
func wide(size int) term.Term {
	if size <= api.MaxText+3 {
		return term.Term("t\x00" + string(rune(size-3)) + strings.Repeat("w", size-3))
	}
	left := (size - 1) / 2
	return "p" + wide(left) + wide(size-1-left)
}

// wrongs are texts that are no right terms, whole.
func wrongs() []term.Term {
	name, number := term.Name(7), term.Number(7)
	text := term.Term("t\x00\x65" + strings.Repeat("x", 101))
	return []term.Term{
		"", " ", "q", "G", "\x00", "\xff", "gg", "gq", " g",
		"n", name[:8], name + "g", name + "\x00", "u", number[:8], number + "\x00",
		"t", "t\x00", "t\x00\x01", "t\x00\x01ab", "t\x01\x00", text,
		"i", "i\x00", "i\x09", "i\x01g",
		"e", "e\x00", "e\x01", "e\x01gg", "e\x02g", "e\x02hgg", "e\x21" + term.Term(strings.Repeat("g", 33)),
		"k", "kkg", "ki\x01", "kgg", "k" + name,
		"h", "hq", "hgg", "p", "pg", "pgq", "pggg", "s", "sgg", "sggq", "sgggg", "x", "xi\x01", "xi\x01q", "xi\x09g", "xi\x01gg",
		hashes(401), "p" + hashes(400) + "g", "sg" + "g" + hashes(400), "xi\x01" + hashes(400),
		wide(20001), "h" + wide(20000), "sgg" + wide(19998), "xi\x01" + wide(19998),
		term.Term(strings.Repeat("h", 1<<20)), term.Term(strings.Repeat("p", 1<<20)), term.Term(strings.Repeat("g", 1<<20)), wide(1 << 20),
	}
}

// leaves are terms that have none in them, whatever their bytes look like.
func leaves() []term.Term {
	return []term.Term{
		"g", term.Name(0), term.Name(1<<64 - 1), term.Number(0), term.Number(0x6767676767676767), "nhgpgghgg", "upgghghgg",
		"t\x00\x00", "t\x00\x01g", "t\x00\x03pgg", "t\x00\x02hg", must(term.Text(strings.Repeat("g", 100))), "i\x01", "i\x08",
	}
}

// spelt reads the term that s begins with as the chapter of terms says it, by recursion: its size, and where its parts begin and end. It counts on a right term.
func spelt(s term.Term) (int, []term.Term) {
	switch s[0] {
	case 'g':
		return 1, nil
	case 'n', 'u':
		return 9, nil
	case 'i':
		return 2, nil
	case 't':
		return 3 + int(s[2]), nil
	}
	at, many := 1, map[byte]int{'k': 1, 'h': 1, 'p': 2, 'x': 2, 's': 3}[s[0]]
	if s[0] == 'e' {
		at, many = 2, int(s[1])
	}
	var l []term.Term
	for range many {
		size, _ := spelt(s[at:])
		l = append(l, s[at:at+size])
		at += size
	}
	return at, l
}

// gather is all that stands in a right term, and itself, as often as it stands there.
func gather(t term.Term) []term.Term {
	l := []term.Term{t}
	_, inner := spelt(t)
	for _, part := range inner {
		l = append(l, gather(part)...)
	}
	return l
}

// checkApart holds Kind, Of and All of any text against its spelling.
func checkApart(t *testing.T, s term.Term) {
	t.Helper()
	var kind byte
	var of, all []term.Term
	if term.Right(s) {
		kind = s[0]
		_, of = spelt(s)
		all = gather(s)
		slices.Sort(all)
		all = slices.Compact(all)
	}
	if parts.Kind(s) != kind || !slices.Equal(parts.Of(s), of) || !slices.Equal(parts.All(s), all) {
		t.Fatalf("%s: Kind %q, %d parts, %d in all; want %q, %d, %d", short(s), parts.Kind(s), len(parts.Of(s)), len(parts.All(s)), kind, len(of), len(all))
	}
}

// texts calls f with each text of at most that many of these bytes.
func texts(alphabet string, most int, f func(term.Term)) {
	var grow func(s string)
	grow = func(s string) {
		f(term.Term(s))
		if len(s) < most {
			for i := range len(alphabet) {
				grow(s + alphabet[i:i+1])
			}
		}
	}
	grow("")
}

// some is a right term, by chance that is the same each time; none deeper than deep.
func some(r *rand.Rand, deep int) term.Term {
	if deep == 1 || r.Intn(4) == 0 {
		switch r.Intn(5) {
		case 0:
			return term.Name(uint64(r.Intn(3)))
		case 1:
			return term.Number(r.Uint64())
		case 2:
			return must(term.Text(strings.Repeat("x", r.Intn(101))))
		case 3:
			return must(term.Private(1 + r.Intn(8)))
		}
		return term.Gen()
	}
	inner := func() term.Term { return some(r, deep-1) }
	switch r.Intn(6) {
	case 0:
		return must(term.Pair(inner(), inner()))
	case 1:
		return must(term.Hash(inner()))
	case 2:
		return must(term.Seal(inner(), inner(), inner()))
	case 3:
		return must(term.Sign(inner(), inner()))
	case 4:
		return must(term.Key(someElement(r, deep-1)))
	}
	return someElement(r, deep)
}

func someElement(r *rand.Rand, deep int) term.Term {
	a := term.Gen()
	if deep > 1 {
		for range r.Intn(5) {
			a = must(term.Power(a, some(r, deep-1)))
		}
	}
	return a
}
