package window_test

import (
	"math/rand"
	"testing"

	"gemot/api"
	"gemot/window"
)

const last = 1<<64 - 1

// kept says the chapter's words again with all numbers that were ever let in, none forgotten.
type kept struct {
	top uint64
	in  map[uint64]int
}

func (k kept) seen(n uint64) bool {
	return n == 0 || n <= k.top && (k.top-n >= 64 || k.in[n] > 0)
}

func (k kept) let(n uint64) kept {
	more := kept{max(k.top, n), map[uint64]int{n: 1}}
	for old := range k.in {
		more.in[old] = 1
	}
	return more
}

func (k kept) window() window.Window {
	w := window.Window{Top: k.top}
	for i := range uint64(64) {
		if k.top > i && k.in[k.top-i] > 0 {
			w.Bits |= 1 << i
		}
	}
	return w
}

// checkStep holds Seen and Let of n, in the window that is kept, against what is kept; it tells what is kept behind that.
func checkStep(t *testing.T, k kept, n uint64) kept {
	t.Helper()
	w := k.window()
	seen := k.seen(n)
	if got := window.Seen(w, n); got != seen {
		t.Fatalf("Seen of %d in %d %x: %v", n, w.Top, w.Bits, got)
	}
	var want window.Window
	wantErr := api.ErrOld
	if !seen {
		k = k.let(n)
		want, wantErr = k.window(), api.OK
	}
	if got, e := window.Let(w, n); got != want || e != wantErr {
		t.Fatalf("Let of %d in %d %x: %d %x, error %d; want %d %x, error %d", n, w.Top, w.Bits, got.Top, got.Bits, e, want.Top, want.Bits, wantErr)
	}
	return k
}

// made is the window that these numbers make, where the test counts on each being let in.
func made(l ...uint64) window.Window {
	var w window.Window
	for _, n := range l {
		next, e := window.Let(w, n)
		if e != api.OK {
			panic(e)
		}
		w = next
	}
	return w
}

// someNumber is a number that is often near top, or a width off, by chance that is the same each time; seldom the last one, as little is left above that.
func someNumber(r *rand.Rand, top uint64) uint64 {
	if r.Intn(1000) == 0 {
		return last
	}
	switch r.Intn(8) {
	case 0:
		return uint64(r.Intn(70))
	case 1:
		return top + min(uint64(r.Intn(70)), last-top)
	case 2:
		return top - min(60+uint64(r.Intn(8)), top)
	case 3:
		return top + min([]uint64{1, 2, 63, 64, 65}[r.Intn(5)], last-top)
	}
	return top - min(uint64(r.Intn(64)), top)
}
