package queue_test

import (
	"math/rand"
	"testing"

	"gemot/queue"
	"gemot/term"
)

// Q2: the first queue goes ahead as long as one waits there; then the second one; then there is nothing.
func TestEither(t *testing.T) {
	for i, c := range []struct {
		a, b   []term.Term
		want   term.Term
		wantOf int
		la, lb []term.Term
	}{
		{nil, nil, "", 0, nil, nil},
		{[]term.Term{"g"}, nil, "g", 1, nil, nil},
		{nil, []term.Term{"hg"}, "hg", 2, nil, nil},
		{[]term.Term{"g"}, []term.Term{"hg"}, "g", 1, nil, []term.Term{"hg"}},
		{[]term.Term{"g", "hg"}, []term.Term{"kg"}, "g", 1, []term.Term{"hg"}, []term.Term{"kg"}},
		{nil, []term.Term{"hg", "kg"}, "hg", 2, nil, []term.Term{"kg"}},
		{[]term.Term{""}, []term.Term{"hg"}, "", 1, nil, []term.Term{"hg"}},
		{nil, []term.Term{""}, "", 2, nil, nil},
	} {
		a, b := made(3, c.a...), made(3, c.b...)
		if got, of := queue.Either(a, b); got != c.want || of != c.wantOf {
			t.Errorf("%d: %q %d, want %q %d", i, got, of, c.want, c.wantOf)
		}
		checkWaits(t, a, c.la)
		checkWaits(t, b, c.lb)
	}
}

// Q2, and P4 of the whole: where one waits in both, it is the first queue's each time.
func TestEitherFirst(t *testing.T) {
	l := numbers(2000)
	a, b := made(1000, l[:1000]...), made(1000, l[1000:]...)
	for i, x := range l {
		checkEither(t, a, b, x, 1+i/1000)
	}
	checkEither(t, a, b, "", 0)
}

// Q2: one and the same queue is the first one, if one waits in it; it is popped once.
func TestEitherSame(t *testing.T) {
	q := made(3, "g", "hg")
	checkEither(t, q, q, "g", 1)
	checkWaits(t, q, []term.Term{"hg"})
	checkEither(t, q, q, "hg", 1)
	checkEither(t, q, q, "", 0)
}

// Q1, Q2 and Q3: all calls in any order, on two queues, against rows that are kept as slices.
func TestAgainstPlain(t *testing.T) {
	r := rand.New(rand.NewSource(6))
	for range 1000 {
		rooms := [2]int{1 + r.Intn(5), 1 + r.Intn(5)}
		if r.Intn(10) == 0 {
			rooms[0] = 1 + r.Intn(1000)
		}
		q := [2]*queue.Queue{made(rooms[0]), made(rooms[1])}
		p := [2]*plain{{room: rooms[0]}, {room: rooms[1]}}
		pushes := 1 + r.Intn(6)
		for range 200 {
			i := r.Intn(2)
			switch n := r.Intn(10); {
			case n < pushes:
				x := someTerm(r)
				checkPush(t, q[i], x, p[i].push(x))
			case n < 8:
				x, ok := p[i].pop()
				checkPop(t, q[i], x, ok)
			case n == 8:
				x, of := p[i].either(p[1-i])
				checkEither(t, q[i], q[1-i], x, of)
			default:
				checkWaits(t, q[i], p[i].waits)
			}
		}
		checkWaits(t, q[0], p[0].waits)
		checkWaits(t, q[1], p[1].waits)
	}
}
