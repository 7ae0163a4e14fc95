package queue_test

import (
	"math"
	"testing"
	"testing/synctest"

	"gemot/api"
	"gemot/queue"
	"gemot/term"
)

// Q1: there is room for 1 to 1000, and no queue for any other room.
func TestNew(t *testing.T) {
	if queue.MaxRoom != 1000 {
		t.Error(queue.MaxRoom)
	}
	for _, room := range []int{0, -1, -1000, 1001, 1002, 1 << 16, 1<<32 + 1, math.MaxInt, math.MinInt, math.MinInt + 1} {
		if q, e := queue.New(room); q != nil || e != api.ErrArg {
			t.Error(room, q, e)
		}
	}
	for room := 1; room <= 1000; room++ {
		q, e := queue.New(room)
		if q == nil || e != api.OK {
			t.Fatal(room, q, e)
		}
		if q.Len() != 0 || len(q.Rest()) != 0 {
			t.Fatal(room, "something waits in a new one")
		}
	}
}

// Q1: so many wait as there is room for, not one more and not one less.
func TestRoom(t *testing.T) {
	l := numbers(1001)
	for room := 1; room <= 1000; room++ {
		q := made(room)
		for i, x := range l[:room] {
			if e := q.Push(x); e != api.OK || q.Len() != i+1 {
				t.Fatal(room, i, e, q.Len())
			}
		}
		checkPush(t, q, l[room], api.ErrFull)
		if q.Len() != room {
			t.Fatal(room, q.Len())
		}
	}
}

// Q1: the chapter's example.
func TestExample(t *testing.T) {
	q := made(1)
	checkPush(t, q, "g", api.OK)
	checkPush(t, q, "hg", api.ErrFull)
	checkPop(t, q, "g", true)
	checkPop(t, q, "", false)
}

// Q1: what finds no room changes nothing, however often it is pushed; there is room again for each one that is popped.
func TestFull(t *testing.T) {
	q := made(3, "g", "hg", "hhg")
	for range 5 {
		checkPush(t, q, "kg", api.ErrFull)
		checkWaits(t, q, []term.Term{"g", "hg", "hhg"})
	}
	checkPop(t, q, "g", true)
	checkPush(t, q, "kg", api.OK)
	checkPush(t, q, "g", api.ErrFull)
	checkWaits(t, q, []term.Term{"hg", "hhg", "kg"})
	checkPop(t, q, "hg", true)
	checkPop(t, q, "hhg", true)
	checkPush(t, q, "g", api.OK)
	checkPush(t, q, "g", api.OK)
	checkPush(t, q, "g", api.ErrFull)
	checkWaits(t, q, []term.Term{"kg", "g", "g"})
}

// Q1: where none waits, Pop tells so each time, and changes nothing.
func TestEmpty(t *testing.T) {
	q := made(2)
	for range 5 {
		checkPop(t, q, "", false)
		checkWaits(t, q, nil)
	}
	checkPush(t, q, "g", api.OK)
	checkPush(t, q, "hg", api.OK)
	checkPush(t, q, "kg", api.ErrFull)
	checkPop(t, q, "g", true)
	checkPop(t, q, "hg", true)
	checkPop(t, q, "", false)
}

// Q1: Push asks of no term that it is right: any text waits, an empty one and one that waits already too.
func TestAnyText(t *testing.T) {
	long := make([]byte, api.MaxBytes+1)
	l := []term.Term{"", "", "g", "g", "h", "no term", "\x00", "\xff\xfe", term.Term(long), "", "g"}
	q := made(len(l), l...)
	checkWaits(t, q, l)
	for _, x := range l {
		checkPop(t, q, x, true)
	}
	checkPop(t, q, "", false)
}

// Q1: each queue has its own room, and its own row.
func TestApart(t *testing.T) {
	a, b := made(1), made(2)
	checkPush(t, a, "g", api.OK)
	checkWaits(t, b, nil)
	checkPop(t, b, "", false)
	checkPush(t, b, "hg", api.OK)
	checkPush(t, a, "kg", api.ErrFull)
	checkPush(t, b, "kg", api.OK)
	checkWaits(t, a, []term.Term{"g"})
	checkWaits(t, b, []term.Term{"hg", "kg"})
}

// Q3: what is popped is what was pushed, in order: rows that are pushed whole, and ones of which some wait all the time.
func TestOrder(t *testing.T) {
	l := numbers(5000)
	for _, room := range []int{1, 2, 3, 7, 64, 999, 1000} {
		for _, ahead := range []int{0, (room - 1) / 2, room - 1} {
			q := made(room, l[:ahead]...)
			for i, x := range l[ahead:] {
				checkPush(t, q, x, api.OK)
				checkPop(t, q, l[i], true)
			}
			checkWaits(t, q, l[len(l)-ahead:])
		}
		q := made(room, l[:room]...)
		for _, x := range l[:room] {
			checkPop(t, q, x, true)
		}
		checkPop(t, q, "", false)
	}
}

// Q3: no call waits for another one: in a bubble with nobody else, one that did would be told as a deadlock.
func TestNoWait(t *testing.T) {
	synctest.Test(t, func(t *testing.T) {
		for _, room := range []int{1, 2, 1000} {
			q, other := made(room), made(room)
			checkPop(t, q, "", false)
			checkWaits(t, q, nil)
			checkEither(t, q, other, "", 0)
			checkEither(t, q, q, "", 0)
			for range room {
				checkPush(t, q, "g", api.OK)
			}
			checkPush(t, q, "g", api.ErrFull)
			if got := len(q.Rest()); got != room {
				t.Error(room, got)
			}
			checkPush(t, q, "g", api.ErrFull)
			checkEither(t, other, q, "g", 2)
		}
	})
}
