package watch_test

import (
	"math/rand"
	"slices"
	"testing"

	"gemot/api"
	"gemot/watch"
)

// W1: of all me and limits that are right: of me 0, of all others limit and 1.
func TestNew(t *testing.T) {
	for me := 1; me <= 8; me++ {
		for limit := 1; limit <= 100; limit++ {
			w := made(t, me, limit)
			if w.Me != me || w.Limit != limit || len(w.Quiet) != 8 {
				t.Fatal(w)
			}
			for i, q := range w.Quiet {
				if i+1 == me && q != 0 || i+1 != me && q != limit+1 {
					t.Fatal(w)
				}
			}
			checkThere(t, w, me)
		}
	}
}

// W1: what is not 1 to 8, or not 1 to 100, is told, and no watch.
func TestNewWrong(t *testing.T) {
	wrong := func(me, limit int) {
		t.Helper()
		if w, e := watch.New(me, limit); e != api.ErrArg || w.Me != 0 || w.Limit != 0 || len(w.Quiet) != 0 {
			t.Errorf("New(%d, %d): %v, error %d", me, limit, w, e)
		}
	}
	for _, me := range noProcesses() {
		for _, limit := range []int{1, 2, 50, 99, 100} {
			wrong(me, limit)
		}
		for _, limit := range noLimits() {
			wrong(me, limit)
		}
	}
	for _, limit := range noLimits() {
		for me := 1; me <= 8; me++ {
			wrong(me, limit)
		}
	}
}

// W1: the chapter's example.
func TestExample(t *testing.T) {
	w := made(t, 1, 2)
	checkThere(t, w, 1)
	w = watch.Hear(w, 3)
	checkThere(t, w, 1, 3)
	w = watch.Tick(watch.Tick(w))
	checkThere(t, w, 1, 3)
	checkThere(t, watch.Tick(w), 1)
}

// W1: each process that is heard is told as 0, however long ago it was heard; no other one is touched.
func TestHear(t *testing.T) {
	for me := 1; me <= 8; me++ {
		for p := 1; p <= 8; p++ {
			for gone := range 5 {
				w, m := made(t, me, 3), newPlain(me, 3)
				for q := 8; q >= 1; q-- {
					w = watch.Tick(watch.Hear(w, q))
					m.hear(q)
					m.tick()
				}
				for range gone {
					w = watch.Tick(w)
					m.tick()
				}
				m.hear(p)
				checkPlain(t, watch.Hear(w, p), m)
			}
		}
	}
}

// W1: hearing twice is hearing once, and of me it is nothing.
func TestHearAgain(t *testing.T) {
	w := watch.Tick(watch.Hear(made(t, 4, 9), 6))
	checkWatch(t, watch.Hear(w, 4), w)
	once := watch.Hear(w, 6)
	checkWatch(t, watch.Hear(once, 6), once)
}

// W1: Hear of what is no process is the same watch.
func TestHearWrong(t *testing.T) {
	w := made(t, 2, 5)
	for p := 1; p <= 8; p++ {
		w = watch.Tick(watch.Hear(w, p))
		for _, no := range noProcesses() {
			checkWatch(t, watch.Hear(w, no), w)
		}
	}
}

// W1: each is told as one more with each tick, up to limit and 1 and no more; of me it is 0 for good.
func TestTick(t *testing.T) {
	for _, limit := range []int{1, 2, 3, 7, 99, 100} {
		for me := 1; me <= 8; me++ {
			w := made(t, me, limit)
			checkWatch(t, watch.Tick(w), w)
			for p := 1; p <= 8; p++ {
				w = watch.Hear(w, p)
			}
			for tick := range limit + 10 {
				want := slices.Repeat([]int{min(tick, limit+1)}, 8)
				want[me-1] = 0
				checkWatch(t, w, watch.Watch{Me: me, Limit: limit, Quiet: want})
				w = watch.Tick(w)
			}
			checkWatch(t, ticks(w, 1000), made(t, me, limit))
		}
	}
}

// W2: one that is heard is there for limit ticks, and not any more behind the next one; and again, when it is heard again.
func TestThereForLimit(t *testing.T) {
	for limit := 1; limit <= 100; limit++ {
		w := made(t, 5, limit)
		for _, p := range []int{1, 8, 4, 6} {
			both := []int{min(p, 5), max(p, 5)}
			w = watch.Hear(w, p)
			checkThere(t, w, both...)
			for range limit {
				w = watch.Tick(w)
				checkThere(t, w, both...)
			}
			w = watch.Tick(w)
			checkThere(t, w, 5)
			checkThere(t, ticks(w, 3), 5)
		}
	}
}

// W2: me is always there, whatever is heard, and whether it is heard or not.
func TestMeIsThere(t *testing.T) {
	for me := 1; me <= 8; me++ {
		w := made(t, me, 1)
		for i := range 300 {
			if !slices.Contains(watch.There(w), me) {
				t.Fatal(i, w)
			}
			w = watch.Tick(w)
			if i%7 == 0 {
				w = watch.Hear(w, i%10)
			}
		}
	}
}

// W1: of all sets of processes that were heard lately, these are there, in order, in whichever order they were heard.
func TestThereInOrder(t *testing.T) {
	for me := 1; me <= 8; me++ {
		for set := range 256 {
			up, down := made(t, me, 4), made(t, me, 4)
			var want []int
			for p := 1; p <= 8; p++ {
				if set>>(p-1)&1 == 1 {
					up = watch.Hear(up, p)
				}
				if set>>(8-p)&1 == 1 {
					down = watch.Hear(down, 9-p)
				}
				if set>>(p-1)&1 == 1 || p == me {
					want = append(want, p)
				}
			}
			checkThere(t, up, want...)
			checkThere(t, down, want...)
		}
	}
}

// W1 and W2: all calls in any order, against the chapter's words by a clock.
func TestAgainstPlain(t *testing.T) {
	r := rand.New(rand.NewSource(11))
	no := noProcesses()
	for range 400 {
		me, limit := 1+r.Intn(8), []int{1, 2, 3, 5, 10, 99, 100}[r.Intn(7)]
		w, m := made(t, me, limit), newPlain(me, limit)
		heard := 1 + r.Intn(9)
		for range 200 {
			switch kind := r.Intn(11); {
			case kind == 10:
				w = watch.Hear(w, no[r.Intn(len(no))])
			case kind < heard:
				p := 1 + r.Intn(8)
				w = watch.Hear(w, p)
				m.hear(p)
			default:
				many := 1 + r.Intn(1+limit/2)
				w = ticks(w, many)
				m.now += many
			}
			checkPlain(t, w, m)
		}
	}
}
