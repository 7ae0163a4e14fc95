package queue_test

import (
	"math/rand"
	"slices"
	"testing"

	"gemot/api"
	"gemot/queue"
	"gemot/term"
)

// plain says the chapter's words again with a slice.
type plain struct {
	room  int
	waits []term.Term
}

func (p *plain) push(t term.Term) api.Errno {
	if len(p.waits) == p.room {
		return api.ErrFull
	}
	p.waits = append(p.waits, t)
	return api.OK
}

func (p *plain) pop() (term.Term, bool) {
	if len(p.waits) == 0 {
		return "", false
	}
	t := p.waits[0]
	p.waits = p.waits[1:]
	return t, true
}

func (p *plain) either(b *plain) (term.Term, int) {
	if t, ok := p.pop(); ok {
		return t, 1
	}
	if t, ok := b.pop(); ok {
		return t, 2
	}
	return "", 0
}

// made is a queue with that room, in which these wait, where the test counts on there being room.
func made(room int, l ...term.Term) *queue.Queue {
	q, e := queue.New(room)
	if e != api.OK {
		panic(e)
	}
	for _, t := range l {
		if e := q.Push(t); e != api.OK {
			panic(e)
		}
	}
	return q
}

// numbers is so many terms that are told apart.
func numbers(many int) []term.Term {
	l := make([]term.Term, many)
	for i := range l {
		l[i] = term.Number(uint64(i))
	}
	return l
}

// someTerm is a right term or not, and often the same one again, by chance that is the same each time.
func someTerm(r *rand.Rand) term.Term {
	if r.Intn(2) == 0 {
		return []term.Term{"", "g", "hg", "h", "\x00", "no term"}[r.Intn(6)]
	}
	return term.Number(r.Uint64())
}

func checkPush(t *testing.T, q *queue.Queue, x term.Term, want api.Errno) {
	t.Helper()
	if e := q.Push(x); e != want {
		t.Fatalf("Push of %q: error %d, want %d", x, e, want)
	}
}

func checkPop(t *testing.T, q *queue.Queue, want term.Term, wantOk bool) {
	t.Helper()
	if x, ok := q.Pop(); x != want || ok != wantOk {
		t.Fatalf("Pop: %q %v, want %q %v", x, ok, want, wantOk)
	}
}

func checkEither(t *testing.T, a, b *queue.Queue, want term.Term, wantOf int) {
	t.Helper()
	if x, of := queue.Either(a, b); x != want || of != wantOf {
		t.Fatalf("Either: %q %d, want %q %d", x, of, want, wantOf)
	}
}

// checkWaits holds what waits in q against a row, by Len and by Rest.
func checkWaits(t *testing.T, q *queue.Queue, want []term.Term) {
	t.Helper()
	if got := q.Len(); got != len(want) {
		t.Fatalf("Len: %d, want %d", got, len(want))
	}
	if got := q.Rest(); !slices.Equal(got, want) {
		t.Fatalf("Rest: %q, want %q", got, want)
	}
	if got := q.Len(); got != len(want) {
		t.Fatalf("Len behind Rest: %d, want %d", got, len(want))
	}
}
