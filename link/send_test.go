package link_test

import (
	"math"
	"slices"
	"testing"

	"gemot/api"
	"gemot/link"
	"gemot/term"
)

// K1: there is an end for each two of 1 to 8, and none for others.
func TestNew(t *testing.T) {
	if link.Room != 64 || link.Ahead != 32 || link.DataKind != 1 || link.AckKind != 2 {
		t.Error(link.Room, link.Ahead, link.DataKind, link.AckKind)
	}
	numbers := []int{math.MinInt, -1, 0, 1, 2, 3, 4, 5, 6, 7, 8, 9, 257, 258, 1<<32 + 1, math.MaxInt}
	for _, me := range numbers {
		for _, peer := range numbers {
			right := me != peer && me >= 1 && me <= 8 && peer >= 1 && peer <= 8
			a, e := link.New(me, peer)
			if right != (e == api.OK) || right != (a != nil) || !right && e != api.ErrArg {
				t.Fatal(me, peer, a, e)
			}
			if right {
				checkState(t, a, nil, 0, 0)
			}
		}
	}
}

// K1: the chapter's words for a frame: signed by me, for the peer alone, with the next number, whoever the two are.
func TestSend(t *testing.T) {
	for me := 1; me <= 8; me++ {
		for peer := 1; peer <= 8; peer++ {
			if me == peer {
				continue
			}
			a := must(me, peer)
			checkSend(t, a, "hg", data(me, peer, 1, "hg").frame(), api.OK)
			checkSend(t, a, "g", data(me, peer, 2, "g").frame(), api.OK)
			checkSend(t, a, "g", data(me, peer, 3, "g").frame(), api.OK)
			checkState(t, a, frames([]letter{data(me, peer, 1, "hg"), data(me, peer, 2, "g"), data(me, peer, 3, "g")}), 3, 0)
		}
	}
}

// K1: what is no right term is not sent, by an end that is full neither, and takes no number.
func TestSendWrong(t *testing.T) {
	a, p := must(1, 2), newPlain(1, 2)
	for n := range 65 {
		for _, w := range wrongs() {
			if n < 3 || n > 62 {
				checkSend(t, a, w, "", api.ErrArg)
			}
		}
		checkPlain(t, a, p)
		l, e := p.send(u(n))
		if e != api.OK {
			checkSend(t, a, u(n), "", api.ErrFull)
		} else {
			checkSend(t, a, u(n), l.frame(), api.OK)
		}
	}
}

// K1: 64 may be open, not one more; there is room again for just those that have come.
func TestSendFull(t *testing.T) {
	a, p := must(5, 3), newPlain(5, 3)
	fill := func() {
		t.Helper()
		for len(p.sent)-p.come < 64 {
			l, _ := p.send(u(len(p.sent)))
			checkSend(t, a, p.sent[len(p.sent)-1], l.frame(), api.OK)
		}
		for range 3 {
			checkSend(t, a, "g", "", api.ErrFull)
			checkSend(t, a, wide(20000), "", api.ErrFull)
			checkSend(t, a, hashes(400), "", api.ErrFull)
			checkPlain(t, a, p)
		}
	}
	fill()
	for _, come := range []int{1, 2, 3, 35, 64, 127, 128, 192} {
		l := ack(3, 5, come)
		_, _, e := p.take(l)
		checkTake(t, a, l.frame(), nil, "", e)
		checkPlain(t, a, p)
		fill()
	}
}

// K1: a body that there is no room for in a message, or in a frame, tells Pack's error, or Sign's; it takes no number.
func TestSendBounds(t *testing.T) {
	a := must(1, 2)
	var open row
	for i, c := range []struct {
		body term.Term
		e    api.Errno
	}{
		{wide(19907), api.OK},
		{wide(19908), api.ErrLong}, // Sign's
		{wide(19910), api.ErrLong},
		{wide(19911), api.ErrLong}, // Pack's: the row is too long
		{wide(19990), api.ErrLong},
		{wide(19991), api.ErrArg}, // Pack's: the message is not right, as the row of its terms is too long
		{wide(20000), api.ErrArg},
		{hashes(390), api.OK},
		{hashes(391), api.ErrDeep}, // Sign's
		{hashes(392), api.ErrDeep}, // Pack's: the row is too deep
		{hashes(399), api.ErrDeep},
		{hashes(400), api.ErrArg}, // Pack's: the message is not right, as the row of its terms is too deep
		{"g", api.OK},
	} {
		want := data(1, 2, len(open)+1, c.body).frame()
		if term.Right(want) != (c.e == api.OK) {
			t.Fatal(i, len(want), term.Depth(want))
		}
		if c.e == api.OK {
			open = append(open, want)
		} else {
			want = ""
		}
		checkSend(t, a, c.body, want, c.e)
		checkState(t, a, open, len(open), 0)
	}
}

// K1: a frame may be sent in another one.
func TestSendFrame(t *testing.T) {
	a, b := must(1, 2), must(2, 1)
	inner := data(2, 1, 1, "g").frame()
	outer := data(1, 2, 1, inner).frame()
	checkSend(t, a, inner, outer, api.OK)
	checkTake(t, b, outer, row{inner}, ack(2, 1, 1).frame(), api.OK)
}

// K1, and P3 of the whole: what Again answers is new each time; what is done with it is not seen in the end.
func TestAgainNew(t *testing.T) {
	a := must(1, 2)
	a.Send("g")
	a.Send("hg")
	want := frames([]letter{data(1, 2, 1, "g"), data(1, 2, 2, "hg")})
	first, second := a.Again(), a.Again()
	_ = append(first, "kg")
	for i := range first {
		first[i] = ""
	}
	if !slices.Equal(second, want) {
		t.Error(show(second...))
	}
	checkTake(t, a, ack(2, 1, 1).frame(), nil, "", api.OK)
	a.Send("kg")
	if !slices.Equal(second, want) {
		t.Error(show(second...))
	}
	checkState(t, a, row{want[1], data(1, 2, 3, "kg").frame()}, 3, 0)
}
