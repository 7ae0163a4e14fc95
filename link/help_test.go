package link_test

import (
	"math/rand"
	"slices"
	"strings"
	"testing"

	"gemot/api"
	"gemot/link"
	"gemot/term"
)

type row = []term.Term

func u(n int) term.Term { return term.Number(uint64(n)) }

// letter is all that a frame says: whose it is, and its message, right or not.
type letter struct {
	from                         int
	kind                         int
	epoch, coord, oldEpoch, oldC int
	number                       int
	members                      []int
	terms                        row
}

func data(from, to, number int, body term.Term) letter {
	return letter{from: from, kind: 1, number: number, members: []int{to}, terms: row{body}}
}

func ack(from, to, number int) letter {
	return letter{from: from, kind: 2, number: number, members: []int{to}}
}

// frame spells a letter byte by byte, whether there is room for it or not.
func (l letter) frame() term.Term {
	items := row{u(l.kind), u(l.epoch), u(l.coord), u(l.oldEpoch), u(l.oldC), u(l.number), u(len(l.members))}
	for _, p := range l.members {
		items = append(items, u(p))
	}
	return signed(l.from, spelt(append(items, l.terms...)...))
}

func signed(from int, text term.Term) term.Term {
	return "xi" + term.Term([]byte{byte(from)}) + text
}

// spelt is a row as a term: a pair for each one, and the number 0 behind all.
func spelt(items ...term.Term) term.Term {
	var b strings.Builder
	for _, item := range items {
		b.WriteString("p" + string(item))
	}
	return term.Term(b.String()) + u(0)
}

// plain says the chapter's words again, with all that was ever sent, and all that ever waited.
type plain struct {
	me, peer   int
	sent       row
	come       int
	ever       map[int]term.Term
	taken      int
	takenTerms row
}

func newPlain(me, peer int) *plain {
	return &plain{me: me, peer: peer, ever: map[int]term.Term{}}
}

// send counts on a body that there is room for in a frame.
func (p *plain) send(body term.Term) (letter, api.Errno) {
	if len(p.sent)-p.come == 64 {
		return letter{}, api.ErrFull
	}
	p.sent = append(p.sent, body)
	return data(p.me, p.peer, len(p.sent), body), api.OK
}

func (p *plain) again() []letter {
	var l []letter
	for n := p.come + 1; n <= len(p.sent); n++ {
		l = append(l, data(p.me, p.peer, n, p.sent[n-1]))
	}
	return l
}

// take is of a letter that the peer could have sent: other ones are held apart.
func (p *plain) take(l letter) (row, *letter, api.Errno) {
	if l.kind == 2 {
		switch {
		case l.number > len(p.sent):
			return nil, nil, api.ErrArg
		case l.number <= p.come:
			return nil, nil, api.ErrOld
		}
		p.come = l.number
		return nil, nil, api.OK
	}
	before, e := p.taken, api.OK
	if _, was := p.ever[l.number]; was {
		e = api.ErrOld
	} else if l.number > p.taken+32 {
		e = api.ErrFull
	} else {
		p.ever[l.number] = l.terms[0]
	}
	for p.ever[p.taken+1] != "" {
		p.taken++
		p.takenTerms = append(p.takenTerms, p.ever[p.taken])
	}
	reply := ack(p.me, p.peer, p.taken)
	return p.takenTerms[before:], &reply, e
}

// must is the end that a call made, where the test counts on there being one.
func must(me, peer int) *link.End {
	e, wrong := link.New(me, peer)
	if wrong != api.OK {
		panic(wrong)
	}
	return e
}

func checkSend(t *testing.T, a *link.End, body, want term.Term, wantErr api.Errno) {
	t.Helper()
	if got, e := a.Send(body); got != want || e != wantErr {
		t.Fatalf("Send of %s: %s %d, want %s %d", show(body), show(got), e, show(want), wantErr)
	}
}

// checkTake takes a frame; want is the bodies, and reply the frame that is replied, or "".
func checkTake(t *testing.T, a *link.End, frame term.Term, want row, reply term.Term, wantErr api.Errno) {
	t.Helper()
	if got, r, e := a.Take(frame); !slices.Equal(got, want) || r != reply || e != wantErr {
		t.Fatalf("Take of %s: %s reply %s error %d, want %s reply %s error %d", show(frame), show(got...), show(r), e, show(want...), show(reply), wantErr)
	}
}

// checkState holds all that an end shows against these: the frames of what is open, how many were sent, and up to which number all were taken.
func checkState(t *testing.T, a *link.End, open row, sent, taken int) {
	t.Helper()
	if got := a.Again(); !slices.Equal(got, open) {
		t.Fatalf("Again: %s, want %s", show(got...), show(open...))
	}
	if got := a.Open(); got != len(open) {
		t.Fatalf("Open: %d, want %d", got, len(open))
	}
	if s, n := a.State(); s != sent || n != taken {
		t.Fatalf("State: %d %d, want %d %d", s, n, sent, taken)
	}
}

// checkPlain holds all that an end shows against the plain one.
func checkPlain(t *testing.T, a *link.End, p *plain) {
	t.Helper()
	checkState(t, a, frames(p.again()), len(p.sent), p.taken)
}

func frames(l []letter) row {
	var f row
	for _, x := range l {
		f = append(f, x.frame())
	}
	return f
}

func show(l ...term.Term) string {
	var b strings.Builder
	for _, t := range l {
		if len(t) > 150 {
			t = t[:150] + ".."
		}
		b.WriteString(strings.ToValidUTF8(string(t), "?") + " ")
	}
	return b.String()
}

// hashes is g behind so many h: a term of that depth and as many bytes.
func hashes(depth int) term.Term { return term.Term(strings.Repeat("h", depth-1) + "g") }

// wide is a term of just that many bytes (at least 3) that is shallow: halves in pairs.
func wide(size int) term.Term {
	if size <= api.MaxText+3 {
		return term.Term("t\x00" + string(rune(size-3)) + strings.Repeat("w", size-3))
	}
	left := (size - 1) / 2
	return "p" + wide(left) + wide(size-1-left)
}

// wrongs are texts that are no right terms, whole.
func wrongs() row {
	return row{
		"", " ", "q", "G", "\x00", "\xff", "gg", " g", u(1)[:8], u(1) + "g", "u", "n", "t", "t\x00\x01", "t\x01\x00", "i", "i\x00", "i\x09", "i\x01g",
		"e", "e\x00", "e\x01", "e\x02g", "e\x02hgg", "k", "kkg", "kgg", "h", "hq", "hgg", "p", "pg", "pgq", "pqg", "pggg", "s", "sgg", "sgggg", "x", "xi\x01", "xi\x02", "xi\x02q", "xi\x02gg",
		hashes(401), wide(20001), term.Term(strings.Repeat("h", 1<<20)), term.Term(strings.Repeat("p", 1<<20)), wide(1 << 20),
	}
}

// some is a body, often the same one again, by chance that is the same each time.
func some(r *rand.Rand) term.Term {
	if r.Intn(3) == 0 {
		return row{"g", "hg", "kg", "pgg", "i\x01", data(1, 2, 1, "g").frame(), ack(2, 1, 3).frame()}[r.Intn(7)]
	}
	return term.Number(r.Uint64())
}
