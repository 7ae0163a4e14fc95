package watch_test

import (
	"math"
	"slices"
	"testing"

	"gemot/watch"
)

// calls are all that can be done with a watch and make another one.
func calls() []func(w watch.Watch) watch.Watch {
	l := []func(w watch.Watch) watch.Watch{watch.Tick}
	for _, p := range append(noProcesses(), 1, 2, 3, 4, 5, 6, 7, 8) {
		l = append(l, func(w watch.Watch) watch.Watch { return watch.Hear(w, p) })
	}
	return l
}

// P3 of the whole: a watch that is handed in stays as it was, and shares nothing with the one that is answered.
func TestNewWatches(t *testing.T) {
	for i, call := range calls() {
		w := watch.Tick(watch.Hear(watch.Hear(made(t, 3, 4), 5), 8))
		was := copied(w)
		got := call(w)
		checkWatch(t, w, was)
		want := copied(got)
		for j := range w.Quiet {
			w.Quiet[j] = -7
		}
		checkWatch(t, got, want)
		w = copied(was)
		got = call(w)
		for j := range got.Quiet {
			got.Quiet[j] = -7
		}
		if !alike(w, was) {
			t.Fatal(i, w)
		}
	}
	a, b := made(t, 3, 4), made(t, 3, 4)
	a.Quiet[0] = -7
	checkWatch(t, b, made(t, 3, 4))
}

// P3 of the whole: what There answers is new each time, and the watch stays as it was.
func TestNewRows(t *testing.T) {
	w := watch.Hear(made(t, 3, 4), 5)
	was := copied(w)
	there, other := watch.There(w), watch.There(w)
	for i := range there {
		there[i] = 0
	}
	_ = append(there, 9)
	checkWatch(t, w, was)
	if !slices.Equal(other, []int{3, 5}) {
		t.Error(other)
	}
	checkThere(t, w, 3, 5)
}

// P3 of the whole: what lies behind the length of Quiet is neither read nor written.
func TestBehindTheLength(t *testing.T) {
	for many := range 12 {
		for _, call := range calls() {
			behind := slices.Repeat([]int{1}, 20)
			w := watch.Watch{Me: 2, Limit: 4, Quiet: behind[:many]}
			short := copied(w)
			got := call(w)
			checkWatch(t, got, call(short))
			checkThere(t, w, watch.There(short)...)
			_ = append(got.Quiet, 7)
			if !slices.Equal(behind, slices.Repeat([]int{1}, 20)) {
				t.Fatal(many, behind)
			}
		}
	}
}

// W1, P1 and P7 of the whole: a watch that no call made has some answer, the same each time, and is not changed.
func TestWrongWatches(t *testing.T) {
	numbers := []int{0, 1, 5, 8, 9, 100, 101, -1, 1 << 32, math.MaxInt, math.MaxInt - 1, math.MinInt}
	rows := [][]int{nil, {}, {0}, numbers, numbers[:7], numbers[4:], slices.Repeat([]int{0}, 8), slices.Repeat([]int{math.MaxInt}, 8), slices.Repeat([]int{math.MinInt}, 9), make([]int, 1000)}
	for _, me := range numbers {
		for _, limit := range numbers {
			for _, quiet := range rows {
				w := watch.Watch{Me: me, Limit: limit, Quiet: quiet}
				was := copied(w)
				for _, call := range calls() {
					got := call(w)
					checkWatch(t, got, call(copied(was)))
					checkThere(t, got, watch.There(call(w))...)
					checkWatch(t, w, was)
				}
				if there := watch.There(w); len(there) > 8 || !slices.IsSorted(there) {
					t.Fatal(w, there)
				}
			}
		}
	}
}

// P1 of the whole: a Quiet of any length.
func TestLong(t *testing.T) {
	w := watch.Watch{Me: 1, Limit: 3, Quiet: make([]int, 1<<20)}
	for _, call := range calls() {
		watch.There(call(w))
	}
}
