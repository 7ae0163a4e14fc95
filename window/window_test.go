package window_test

import (
	"math/rand"
	"testing"

	"gemot/api"
	"gemot/window"
)

// W1: in a window of nothing only 0 is seen.
func TestNothing(t *testing.T) {
	var w window.Window
	if !window.Seen(w, 0) {
		t.Error("0 is not seen")
	}
	if got, e := window.Let(w, 0); got != w || e != api.ErrOld {
		t.Error(got, e)
	}
	for _, n := range []uint64{1, 2, 63, 64, 65, 1 << 32, 1 << 63, last - 1, last} {
		if window.Seen(w, n) {
			t.Error(n, "is seen")
		}
		if got, e := window.Let(w, n); got != (window.Window{Top: n, Bits: 1}) || e != api.OK {
			t.Error(n, got, e)
		}
	}
}

// W1: Top is the greatest one that was let in, and bit i tells of Top less i.
func TestBits(t *testing.T) {
	for i, c := range []struct {
		l         []uint64
		top, bits uint64
	}{
		{[]uint64{1, 2}, 2, 3},
		{[]uint64{2, 1}, 2, 3},
		{[]uint64{1, 3}, 3, 5},
		{[]uint64{3, 2}, 3, 3},
		{[]uint64{3, 1}, 3, 5},
		{[]uint64{64, 1}, 64, 1<<63 | 1},
		{[]uint64{1, 64}, 64, 1<<63 | 1},
		{[]uint64{1, 65}, 65, 1},
		{[]uint64{1, 2, 65}, 65, 1<<63 | 1},
		{[]uint64{1, 2, 66}, 66, 1},
		{[]uint64{100, 37}, 100, 1<<63 | 1},
		{[]uint64{100, 101, 163}, 163, 1<<63 | 1<<62 | 1},
		{[]uint64{100, 101, 164}, 164, 1<<63 | 1},
		{[]uint64{100, 101, 165}, 165, 1},
		{[]uint64{5, last}, last, 1},
		{[]uint64{last, last - 63}, last, 1<<63 | 1},
		{[]uint64{last - 1, last}, last, 3},
		{[]uint64{last - 64, last}, last, 1},
		{[]uint64{last - 63, last}, last, 1<<63 | 1},
		{[]uint64{1 << 63, 1<<63 - 1}, 1 << 63, 3},
	} {
		if w := made(c.l...); w != (window.Window{Top: c.top, Bits: c.bits}) {
			t.Errorf("%d: %v make %d %x", i, c.l, w.Top, w.Bits)
		}
	}
}

// W1: a number is seen from 64 below Top on, whether it was there or not; the one above that is not, if it was not.
func TestWidth(t *testing.T) {
	if window.Width != 64 {
		t.Error(window.Width)
	}
	for _, top := range []uint64{65, 66, 100, 127, 128, 1 << 32, 1 << 63, last - 1, last} {
		w := made(top)
		for _, below := range []uint64{0, 64, 65, 66, 127, 128, 1 << 20, top - 1, top} {
			if below > top || below > 0 && below < 64 {
				continue
			}
			if !window.Seen(w, top-below) {
				t.Error(top, "less", below, "is not seen")
			}
			if got, e := window.Let(w, top-below); got != (window.Window{}) || e != api.ErrOld {
				t.Error(top, "less", below, got, e)
			}
		}
		for below := uint64(1); below < 64; below++ {
			if window.Seen(w, top-below) {
				t.Error(top, "less", below, "is seen")
			}
			got, e := window.Let(w, top-below)
			if got != (window.Window{Top: top, Bits: 1 | 1<<below}) || e != api.OK {
				t.Error(top, "less", below, got, e)
			}
			if !window.Seen(got, top-below) || !window.Seen(got, top) {
				t.Error(top, "less", below, "was let in, and is not seen")
			}
		}
	}
}

// W1: by how much Top rises, so far the bits go up, and those that are too far below go.
func TestRise(t *testing.T) {
	full := window.Window{Top: 64, Bits: last}
	for up := uint64(1); up < 200; up++ {
		want := window.Window{Top: 64 + up, Bits: 1}
		for i := up; i < 64; i++ {
			want.Bits |= 1 << i
		}
		if got, e := window.Let(full, 64+up); got != want || e != api.OK {
			t.Errorf("%d: %d %x, error %d; want %x", up, got.Top, got.Bits, e, want.Bits)
		}
	}
}

// W1: of a low Top there are fewer numbers than bits: the bits that tell of 0 and below stay 0.
func TestLow(t *testing.T) {
	var w window.Window
	for n := uint64(1); n <= 64; n++ {
		w = made(n)
		for lower := n - 1; lower > 0; lower-- {
			w, _ = window.Let(w, lower)
		}
		want := uint64(last)
		if n < 64 {
			want = 1<<n - 1
		}
		if w.Top != n || w.Bits != want {
			t.Errorf("%d: %d %x", n, w.Top, w.Bits)
		}
		for lower := range n + 1 {
			if !window.Seen(w, lower) {
				t.Error(lower, "is not seen below", n)
			}
		}
	}
}

// W1: each row of numbers at the edges, and what Seen and Let tell of each number there, against one who keeps all numbers.
func TestEdges(t *testing.T) {
	for _, numbers := range [][]uint64{
		{0, 1, 2, 3, 5},
		{0, 1, 63, 64, 65, 66},
		{1, 2, 64, 65, 128, 129},
		{last, last - 1, last - 63, last - 64, last - 65, 1},
		{1<<63 - 1, 1 << 63, 1<<63 + 1, 1<<63 - 63, 1<<63 - 64, last},
	} {
		var grow func(k kept, left int)
		grow = func(k kept, left int) {
			for _, n := range numbers {
				if next := checkStep(t, k, n); left > 1 {
					grow(next, left-1)
				}
			}
		}
		grow(kept{}, 5)
	}
}

// W1: the same of long rows.
func TestLongRows(t *testing.T) {
	r := rand.New(rand.NewSource(5))
	for range 200 {
		var k kept
		for range 200 {
			k = checkStep(t, k, someNumber(r, k.top))
		}
	}
}

// W1: Seen hangs on the words alone, of a window that is written by hand too; what Let makes of one has no bits of 0 and below.
func TestByHand(t *testing.T) {
	r := rand.New(rand.NewSource(6))
	for range 100000 {
		w := window.Window{Top: []uint64{uint64(r.Intn(70)), r.Uint64(), last - uint64(r.Intn(70))}[r.Intn(3)], Bits: []uint64{0, 1, last, r.Uint64()}[r.Intn(4)]}
		n := someNumber(r, w.Top)
		want := n == 0 || n <= w.Top && (w.Top-n >= 64 || w.Bits>>(w.Top-n)&1 == 1)
		if got := window.Seen(w, n); got != want {
			t.Fatalf("Seen of %d in %d %x: %v", n, w.Top, w.Bits, got)
		}
		got, e := window.Let(w, n)
		if (e == api.ErrOld) != want || e != api.OK && e != api.ErrOld {
			t.Fatalf("Let of %d in %d %x: error %d", n, w.Top, w.Bits, e)
		}
		if e != api.OK {
			if got != (window.Window{}) {
				t.Fatalf("Let of %d in %d %x: %d %x beside an error", n, w.Top, w.Bits, got.Top, got.Bits)
			}
			continue
		}
		if got.Top != max(w.Top, n) || got.Top < 64 && got.Bits>>got.Top != 0 || !window.Seen(got, n) {
			t.Fatalf("Let of %d in %d %x: %d %x", n, w.Top, w.Bits, got.Top, got.Bits)
		}
	}
	if got, e := window.Let(window.Window{Top: 2, Bits: last}, 5); got != (window.Window{Top: 5, Bits: 3<<3 | 1}) || e != api.OK {
		t.Error(got, e)
	}
	if got, e := window.Let(window.Window{Top: 0, Bits: last}, 1); got != (window.Window{Top: 1, Bits: 1}) || e != api.OK {
		t.Error(got, e)
	}
}

// W1: windows of the same numbers are the same, in whichever order those came.
func TestCompared(t *testing.T) {
	r := rand.New(rand.NewSource(7))
	for range 1000 {
		base := r.Uint64() >> 1
		numbers := make([]uint64, 1+r.Intn(64))
		for i, p := range r.Perm(64)[:len(numbers)] {
			numbers[i] = base + 1 + uint64(p)
		}
		one := made(numbers...)
		r.Shuffle(len(numbers), func(i, j int) { numbers[i], numbers[j] = numbers[j], numbers[i] })
		if other := made(numbers...); one != other {
			t.Fatal(one, other, numbers)
		}
	}
}
