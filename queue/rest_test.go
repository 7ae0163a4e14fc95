package queue_test

import (
	"slices"
	"testing"

	"gemot/api"
	"gemot/term"
)

// Q1: Rest tells all that wait, in order, and they go on waiting: of each many, wherever in its room the row begins.
func TestRest(t *testing.T) {
	l := numbers(20)
	for room := 1; room <= 6; room++ {
		for gone := range 2*room + 1 {
			for many := range room + 1 {
				q := made(room)
				for _, x := range l[:gone] {
					checkPush(t, q, x, api.OK)
					checkPop(t, q, x, true)
				}
				row := l[gone : gone+many]
				for _, x := range row {
					checkPush(t, q, x, api.OK)
				}
				checkWaits(t, q, row)
				checkWaits(t, q, row)
				for _, x := range row {
					checkPop(t, q, x, true)
				}
				checkPop(t, q, "", false)
			}
		}
	}
}

// Q1: the same of the greatest room, full.
func TestRestLong(t *testing.T) {
	l := numbers(1000)
	q := made(1000, l...)
	checkWaits(t, q, l)
	checkPush(t, q, "g", api.ErrFull)
	for i, x := range l {
		checkPop(t, q, x, true)
		checkWaits(t, q, l[i+1:])
	}
}

// Q1, and P3 of the whole: what Rest answers is new each time; what is done with it is not seen in the queue, nor what is done with the queue in it.
func TestRestNew(t *testing.T) {
	want := []term.Term{"g", "hg", "hhg"}
	q := made(4, want...)
	first, second := q.Rest(), q.Rest()
	_ = append(first, "kg")
	for i := range first {
		first[i] = ""
	}
	if !slices.Equal(second, want) {
		t.Errorf("%q", second)
	}
	checkWaits(t, q, want)
	checkPop(t, q, "g", true)
	checkPush(t, q, "kg", api.OK)
	checkPush(t, q, "kkg", api.OK)
	if !slices.Equal(second, want) {
		t.Errorf("%q", second)
	}
	checkWaits(t, q, []term.Term{"hg", "hhg", "kg", "kkg"})
}
