package know_test

import (
	"math/rand"
	"slices"
	"strconv"
	"strings"
	"testing"

	"gemot/api"
	"gemot/know"
	"gemot/term"
)

// x, y, z and w are names, i1 and i2 private keys, by which the tables are written.
const (
	x  = term.Term("n\x00\x00\x00\x00\x00\x00\x00\x01")
	y  = term.Term("n\x00\x00\x00\x00\x00\x00\x00\x02")
	z  = term.Term("n\x00\x00\x00\x00\x00\x00\x00\x03")
	w  = term.Term("n\x00\x00\x00\x00\x00\x00\x00\x04")
	i1 = term.Term("i\x01")
	i2 = term.Term("i\x02")
	u7 = term.Term("u\x00\x00\x00\x00\x00\x00\x00\x07")
	ta = term.Term("t\x00\x01a")
)

type row = []term.Term

func show(l ...term.Term) string {
	var b strings.Builder
	for _, t := range l {
		if len(t) > 60 {
			t = t[:60] + ".."
		}
		b.WriteString(strconv.Quote(string(t)) + " ")
	}
	return b.String()
}

// must is the term that a call made, where the test counts on there being one.
func must(a term.Term, e api.Errno) term.Term {
	if e != api.OK {
		panic(e)
	}
	return a
}

// power is g to all of these, in whichever order they are handed in.
func power(exponents ...term.Term) term.Term {
	a := term.Gen()
	for _, by := range exponents {
		a = must(term.Power(a, by))
	}
	return a
}

func key(element term.Term) term.Term { return must(term.Key(element)) }

func seal(key, nonce, text term.Term) term.Term { return must(term.Seal(key, nonce, text)) }

// hashes is g behind so many h: a term of that depth.
func hashes(depth int) term.Term { return term.Term(strings.Repeat("h", depth-1) + "g") }

// wide is a term of just that many bytes (at least 3) that is shallow: halves in pairs.
func wide(size int) term.Term {
	if size <= api.MaxText+3 {
		return term.Term("t\x00" + string(rune(size-3)) + strings.Repeat("w", size-3))
	}
	left := (size - 1) / 2
	return "p" + wide(left) + wide(size-1-left)
}

// wrongs are texts that are no right terms, whole.
func wrongs() row {
	return row{
		"", " ", "q", "G", "\x00", "\xff", "gg", " g", x[:8], x + "g", "u", u7[:8], "t", "t\x00\x01", "t\x01\x00", "i", "i\x00", "i\x09", "i\x01g",
		"e", "e\x00", "e\x01", "e\x01" + x + y, "e\x02" + x, "e\x02" + y + x, "e\x21" + term.Term(strings.Repeat("g", 33)),
		"k", "kkg", "k" + x, "kgg", "h", "hq", "hgg", "p", "pg", "pgq", "pq" + x, "p" + x + "q", "pggg", "s", "sgg", "sggq", "sg" + x + "q", "sgq" + x, "sgggg", "x", "xi\x01", "xi\x01q", "xi\x09" + x,
		hashes(401), "p" + hashes(400) + x, "sg" + x + hashes(400), wide(20001), "p" + x + wide(20000), "xi\x01" + wide(19998),
		term.Term(strings.Repeat("h", 1<<20)), term.Term(strings.Repeat("p", 1<<20)), wide(1 << 20),
	}
}

// spelt reads the term that s begins with as the chapter of terms says it, by recursion: its size, and what stands in it. It counts on a right term.
func spelt(s term.Term) (int, row) {
	switch s[0] {
	case 'g':
		return 1, nil
	case 'n', 'u':
		return 9, nil
	case 'i':
		return 2, nil
	case 't':
		return 3 + int(s[2]), nil
	}
	at, many := 1, map[byte]int{'k': 1, 'h': 1, 'p': 2, 'x': 2, 's': 3}[s[0]]
	if s[0] == 'e' {
		at, many = 2, int(s[1])
	}
	var l row
	for range many {
		size, _ := spelt(s[at:])
		l = append(l, s[at:at+size])
		at += size
	}
	return at, l
}

func inside(t term.Term) row {
	_, l := spelt(t)
	return l
}

// counted is how often each term is in l.
func counted(l row) map[term.Term]int {
	m := map[term.Term]int{}
	for _, t := range l {
		m[t]++
	}
	return m
}

// canMake says the chapter's words TO MAKE again, one by one, trying every element. It counts on right terms.
func canMake(l row, t term.Term) bool {
	if slices.Contains(l, t) {
		return true
	}
	all := func(parts row) bool {
		return !slices.ContainsFunc(parts, func(part term.Term) bool { return !canMake(l, part) })
	}
	switch t[0] {
	case 'g', 'u', 't':
		return true
	case 'p', 'h', 'k', 's', 'x':
		return all(inside(t))
	case 'e':
		for _, element := range append(row{"g"}, l...) {
			if element[0] != 'g' && element[0] != 'e' {
				continue
			}
			left := counted(inside(t))
			fits := true
			for exponent, times := range counted(inside(element)) {
				left[exponent] -= times
				fits = fits && left[exponent] >= 0
			}
			var others row
			for exponent, times := range left {
				if times > 0 {
					others = append(others, exponent)
				}
			}
			if fits && all(others) {
				return true
			}
		}
	}
	return false
}

// rightOf is the right terms of l.
func rightOf(l row) row {
	return slices.DeleteFunc(slices.Clone(l), func(t term.Term) bool { return !term.Right(t) })
}

// closure goes through all that there is, again and again, until a whole round adds nothing.
func closure(l row) row {
	there := slices.Compact(slices.Sorted(slices.Values(rightOf(l))))
	for before := -1; before != len(there); {
		before = len(there)
		for _, t := range there {
			parts := inside(t)
			switch t[0] {
			case 'p':
				there = append(there, parts...)
			case 'x':
				there = append(there, parts[1])
			case 's':
				there = append(there, parts[1])
				if canMake(there, parts[0]) {
					there = append(there, parts[2])
				}
			}
		}
		slices.Sort(there)
		there = slices.Compact(there)
	}
	return there
}

func checkClose(t *testing.T, l, want row) {
	t.Helper()
	want = slices.Clone(want)
	slices.Sort(want)
	if got := know.Close(l); !slices.Equal(got, want) {
		t.Errorf("Close of %s:\ngot  %s\nwant %s", show(l...), show(got...), show(want...))
	}
}

// some is a right term, by chance that is the same each time; none deeper than deep. Its few names make that terms meet.
func some(r *rand.Rand, deep int) term.Term {
	if deep == 1 || r.Intn(4) == 0 {
		return row{x, x, y, y, z, z, w, i1, i2, u7, ta, "g"}[r.Intn(12)]
	}
	inner := func() term.Term { return some(r, deep-1) }
	switch r.Intn(8) {
	case 0:
		return must(term.Pair(inner(), inner()))
	case 1:
		return must(term.Hash(inner()))
	case 2, 3:
		return seal(inner(), inner(), inner())
	case 4:
		return must(term.Sign(inner(), inner()))
	case 5:
		return key(someElement(r, deep-1))
	}
	return someElement(r, deep)
}

func someElement(r *rand.Rand, deep int) term.Term {
	var l row
	if deep > 1 {
		for range r.Intn(4) {
			l = append(l, some(r, 1+r.Intn(deep-1)))
		}
	}
	return power(l...)
}

func someRow(r *rand.Rand, most, deep int) row {
	var l row
	for range r.Intn(most + 1) {
		l = append(l, some(r, deep))
	}
	return l
}
