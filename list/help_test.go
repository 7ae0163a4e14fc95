package list_test

import (
	"math/rand"
	"slices"
	"strconv"
	"strings"
	"testing"

	"gemot/api"
	"gemot/list"
	"gemot/parts"
	"gemot/term"
)

type row = []term.Term

func u(n uint64) term.Term { return term.Number(n) }

func show(l ...term.Term) string {
	var b strings.Builder
	for _, t := range l {
		if len(t) > 60 {
			t = t[:60] + ".."
		}
		b.WriteString(strconv.Quote(string(t)) + " ")
	}
	return b.String()
}

// must is the term that a call made, where the test counts on there being one.
func must(a term.Term, e api.Errno) term.Term {
	if e != api.OK {
		panic(e)
	}
	return a
}

// hashes is g behind so many h: a term of that depth and as many bytes.
func hashes(depth int) term.Term { return term.Term(strings.Repeat("h", depth-1) + "g") }

// wide is a term of just that many bytes (at least 3) that is shallow: halves in pairs.
func wide(size int) term.Term {
	if size <= api.MaxText+3 {
		return term.Term("t\x00" + string(rune(size-3)) + strings.Repeat("w", size-3))
	}
	left := (size - 1) / 2
	return "p" + wide(left) + wide(size-1-left)
}

// wrongs are texts that are no right terms, whole.
func wrongs() row {
	return row{
		"", " ", "q", "G", "\x00", "\xff", "gg", " g", u(1)[:8], u(1) + "g", "u", "n", "t", "t\x00\x01", "t\x01\x00", "i", "i\x00", "i\x09", "i\x01g",
		"e", "e\x00", "e\x01", "e\x02g", "e\x02hgg", "e\x21" + term.Term(strings.Repeat("g", 33)), "k", "kkg", "kgg",
		"h", "hq", "hgg", "p", "pg", "pgq", "pqg", "pggg", "pg" + u(0) + "g", u(0) + u(0), "s", "sgg", "sgggg", "x", "xi\x01",
		hashes(401), wide(20001), term.Term(strings.Repeat("h", 1<<20)), term.Term(strings.Repeat("p", 1<<20)), term.Term(strings.Repeat("pg", 1<<19)), wide(1 << 20),
	}
}

// plainPut says the chapter's words again, one by one: sums over the whole, and pairs made by the call for pairs.
func plainPut(l row) (term.Term, api.Errno) {
	if len(l) > 150 {
		return "", api.ErrArg
	}
	all := 9
	for _, t := range l {
		if !term.Right(t) {
			return "", api.ErrArg
		}
		all += 1 + len(t)
	}
	if all > 20000 {
		return "", api.ErrLong
	}
	return plainPairs(l)
}

func plainPairs(l row) (term.Term, api.Errno) {
	if len(l) == 0 {
		return u(0), api.OK
	}
	behind, e := plainPairs(l[1:])
	if e != api.OK {
		return "", e
	}
	return term.Pair(l[0], behind)
}

// plainTake takes pairs apart by the calls for parts.
func plainTake(t term.Term) (row, bool) {
	var l row
	for parts.Kind(t) == 'p' {
		both := parts.Of(t)
		l = append(l, both[0])
		t = both[1]
	}
	return l, t == u(0) && len(l) <= 150
}

func checkPut(t *testing.T, l row) {
	t.Helper()
	want, wantErr := plainPut(l)
	got, e := list.Put(l)
	if got != want || e != wantErr {
		t.Fatalf("Put of %s: %s %d, want %s %d", show(l...), show(got), e, show(want), wantErr)
	}
	if e != api.OK {
		return
	}
	if back, e := list.Take(got); !slices.Equal(back, l) || e != api.OK {
		t.Fatalf("%s was put, %s taken, error %d", show(l...), show(back...), e)
	}
}

func checkTake(t *testing.T, a term.Term) {
	t.Helper()
	want, ok := plainTake(a)
	wantErr := api.OK
	if !ok {
		want, wantErr = nil, api.ErrForm
	}
	if l, e := list.Take(a); !slices.Equal(l, want) || e != wantErr {
		t.Fatalf("Take of %s: %s %d, want %s %d", show(a), show(l...), e, show(want...), wantErr)
	}
}

// same tells whether messages are alike; lists of nothing are.
func same(a, b list.Message) bool {
	return a.Kind == b.Kind && a.Id == b.Id && a.Old == b.Old && a.Number == b.Number && slices.Equal(a.Members, b.Members) && slices.Equal(a.Terms, b.Terms)
}

// texts calls f with each text of at most that many of these pieces.
func texts(pieces row, most int, f func(term.Term)) {
	var grow func(s term.Term, left int)
	grow = func(s term.Term, left int) {
		f(s)
		if left > 0 {
			for _, piece := range pieces {
				grow(s+piece, left-1)
			}
		}
	}
	grow("", most)
}

// some is a right term, by chance that is the same each time; none deeper than deep.
func some(r *rand.Rand, deep int) term.Term {
	if deep == 1 || r.Intn(3) == 0 {
		return row{"g", u(0), u(1), u(uint64(r.Intn(10))), term.Name(uint64(r.Intn(3))), "i\x01", must(term.Text(strings.Repeat("x", r.Intn(101))))}[r.Intn(7)]
	}
	inner := func() term.Term { return some(r, deep-1) }
	switch r.Intn(7) {
	case 0:
		return must(term.Hash(inner()))
	case 1:
		return must(term.Seal(inner(), inner(), inner()))
	case 2:
		return must(term.Sign(inner(), inner()))
	case 3:
		return must(term.Key(must(term.Power("g", some(r, max(1, deep-2))))))
	}
	return must(term.Pair(inner(), inner()))
}

func someRow(r *rand.Rand, most, deep int) row {
	l := make(row, r.Intn(most+1))
	for i := range l {
		l[i] = some(r, deep)
	}
	return l
}

// someMessage is a right one, at the edges of its numbers now and then.
func someMessage(r *rand.Rand) list.Message {
	number := func() int { return []int{0, 1, 255, 256, 1<<31 - 1, r.Intn(1 << 31)}[r.Intn(6)] }
	m := list.Message{
		Kind: r.Intn(21), Id: api.Id{Epoch: number(), Coord: r.Intn(9)}, Old: api.Id{Epoch: number(), Coord: r.Intn(9)}, Number: number(), Terms: someRow(r, 5, 4),
	}
	for p := 1; p <= 8; p++ {
		if r.Intn(2) == 0 {
			m.Members = append(m.Members, p)
		}
	}
	return m
}
