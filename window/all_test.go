package window_test

import (
	"math/rand"
	"slices"
	"testing"

	"gemot/api"
	"gemot/window"
)

// W2: those that are let in, one behind the other.
func TestAll(t *testing.T) {
	for i, c := range []struct{ l, want []uint64 }{
		{nil, nil},
		{[]uint64{}, nil},
		{[]uint64{0}, nil},
		{[]uint64{0, 0, 0}, nil},
		{[]uint64{7}, []uint64{7}},
		{[]uint64{7, 7, 7}, []uint64{7}},
		{[]uint64{1, 3, 2, 3, 70, 5, 69}, []uint64{1, 3, 2, 70, 69}}, // the chapter's example
		{[]uint64{1, 3, 2, 3, 70, 6, 7}, []uint64{1, 3, 2, 70, 7}},
		{[]uint64{64, 0, 1, 1}, []uint64{64, 1}},
		{[]uint64{65, 0, 1, 2, 2}, []uint64{65, 2}},
		{[]uint64{3, 2, 1, 0}, []uint64{3, 2, 1}},
		{[]uint64{last, 1, last - 64, last - 63, last, 0}, []uint64{last, last - 63}},
		{[]uint64{1, last, 2}, []uint64{1, last}},
	} {
		if got := window.All(c.l); !slices.Equal(got, c.want) {
			t.Errorf("%d: %v, want %v", i, got, c.want)
		}
	}
}

// W2: All tells what Let does, number by number.
func TestAllLets(t *testing.T) {
	r := rand.New(rand.NewSource(8))
	for range 2000 {
		var l, want []uint64
		var w window.Window
		for range r.Intn(200) {
			n := someNumber(r, w.Top)
			l = append(l, n)
			if next, e := window.Let(w, n); e == api.OK {
				w = next
				want = append(want, n)
			}
		}
		if got := window.All(l); !slices.Equal(got, want) {
			t.Fatalf("All of %v: %v, want %v", l, got, want)
		}
	}
}

// W2, and P3 of the whole: what is handed in stays as it is, also behind its length, and what is answered is new; each call begins with a window of nothing.
func TestAllNew(t *testing.T) {
	room := []uint64{9, 0, 4, 4, 5, 77, 78, 79}
	before := slices.Clone(room)
	l := room[:5]
	first := window.All(l)
	want := []uint64{9, 4, 5}
	if !slices.Equal(first, want) || !slices.Equal(room, before) {
		t.Fatal(first, room)
	}
	_ = append(first, 1, 2, 3)
	for i := range first {
		first[i] = 1000
	}
	if !slices.Equal(room, before) {
		t.Error("the answer lies within what was handed in:", room)
	}
	if again := window.All(l); !slices.Equal(again, want) {
		t.Error(again)
	}
}

// W2: long lists, of numbers that rise, fall, or stay.
func TestAllLong(t *testing.T) {
	const many = 1 << 20
	rise, fall, stay := make([]uint64, many), make([]uint64, many), make([]uint64, many)
	for i := range uint64(many) {
		rise[i], fall[i], stay[i] = i+1, many-i, many
	}
	if got := window.All(rise); !slices.Equal(got, rise) {
		t.Error(len(got), "of those that rise")
	}
	if got := window.All(fall); !slices.Equal(got, fall[:64]) {
		t.Error(len(got), "of those that fall")
	}
	if got := window.All(stay); !slices.Equal(got, stay[:1]) {
		t.Error(len(got), "of those that stay")
	}
}

// W3: none is let in twice, and one above all that were let in always is.
func TestOnce(t *testing.T) {
	r := rand.New(rand.NewSource(9))
	for range 500 {
		var l []uint64
		var top uint64
		for range 300 {
			n := someNumber(r, top)
			top = max(top, n)
			l = append(l, n)
		}
		in := window.All(l)
		times := map[uint64]int{}
		for _, n := range in {
			if times[n]++; times[n] > 1 {
				t.Fatal(n, "is let in twice of", l)
			}
		}
		top = 0
		for _, n := range l {
			if n > top && times[n] == 0 {
				t.Fatal(n, "is above all, and not let in, of", l)
			}
			top = max(top, n)
		}
	}
}
