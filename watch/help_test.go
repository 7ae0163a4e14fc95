package watch_test

import (
	"math"
	"slices"
	"testing"

	"gemot/api"
	"gemot/watch"
)

// plain says the chapter's words again by a clock: of each process, when it was heard last, if it ever was.
type plain struct {
	me, limit, now int
	last           map[int]int
}

func newPlain(me, limit int) *plain { return &plain{me: me, limit: limit, last: map[int]int{}} }

func (p *plain) hear(q int) { p.last[q] = p.now }

func (p *plain) tick() { p.now++ }

func (p *plain) quiet() []int {
	var l []int
	for q := 1; q <= 8; q++ {
		at, ever := p.last[q]
		switch {
		case q == p.me:
			l = append(l, 0)
		case ever && p.now-at <= p.limit:
			l = append(l, p.now-at)
		default:
			l = append(l, p.limit+1)
		}
	}
	return l
}

func (p *plain) there() []int {
	var l []int
	for q := 1; q <= 8; q++ {
		at, ever := p.last[q]
		if q == p.me || ever && at+p.limit >= p.now {
			l = append(l, q)
		}
	}
	return l
}

// made is a new watch, where the test counts on there being one.
func made(t *testing.T, me, limit int) watch.Watch {
	t.Helper()
	w, e := watch.New(me, limit)
	if e != api.OK {
		t.Fatalf("New(%d, %d): error %d", me, limit, e)
	}
	return w
}

func ticks(w watch.Watch, many int) watch.Watch {
	for range many {
		w = watch.Tick(w)
	}
	return w
}

func checkPlain(t *testing.T, w watch.Watch, p *plain) {
	t.Helper()
	checkWatch(t, w, watch.Watch{Me: p.me, Limit: p.limit, Quiet: p.quiet()})
	checkThere(t, w, p.there()...)
}

func checkWatch(t *testing.T, w, want watch.Watch) {
	t.Helper()
	if !alike(w, want) {
		t.Fatalf("%v, want %v", w, want)
	}
}

func checkThere(t *testing.T, w watch.Watch, want ...int) {
	t.Helper()
	if got := watch.There(w); !slices.Equal(got, want) {
		t.Fatalf("There of %v: %v, want %v", w, got, want)
	}
}

func alike(a, b watch.Watch) bool {
	return a.Me == b.Me && a.Limit == b.Limit && slices.Equal(a.Quiet, b.Quiet)
}

// copied is one like it that shares nothing with it.
func copied(w watch.Watch) watch.Watch {
	w.Quiet = append([]int{}, w.Quiet...)
	return w
}

// noProcesses are numbers that are not 1 to 8.
func noProcesses() []int {
	return []int{0, 9, -1, -8, 10, 16, 256 + 1, 1<<32 + 1, -1 << 32, math.MaxInt, math.MaxInt - 1, math.MinInt, math.MinInt + 1}
}

// noLimits are numbers that are not 1 to 100.
func noLimits() []int {
	return []int{0, 101, -1, -100, 102, 256 + 1, 1<<32 + 1, -1 << 32, math.MaxInt, math.MaxInt - 1, math.MinInt, math.MinInt + 1}
}
