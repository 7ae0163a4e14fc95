package net_test

import (
	"testing"

	"gemot/api"
	"gemot/net"
	"gemot/term"
)

// N1: nothing lies in a new one, nothing was heard, and nothing can be taken out of it.
func TestNew(t *testing.T) {
	if net.Room != 400 {
		t.Error(net.Room)
	}
	n := net.New()
	if n == nil {
		t.Fatal("no net")
	}
	checkNet(t, n, nil, nil)
	for _, i := range append(outside(0), 0) {
		checkTake(t, n, i, net.Datagram{}, api.ErrNone)
		checkDouble(t, n, i, api.ErrNone)
	}
	checkNet(t, n, nil, nil)
}

// N1: the chapter's example.
func TestExample(t *testing.T) {
	n := net.New()
	checkSend(t, n, from(1, 2, "g"), api.OK)
	checkDouble(t, n, 0, api.OK)
	checkTake(t, n, 0, from(1, 2, "g"), api.OK)
	if n.Many() != 1 {
		t.Error(n.Many())
	}
}

// N1: any process sends to any one, itself too; what is sent lies behind all others.
func TestSend(t *testing.T) {
	n := net.New()
	var want []net.Datagram
	for p := 1; p <= 8; p++ {
		for q := 1; q <= 8; q++ {
			d := from(p, q, u(8*p+q))
			checkSend(t, n, d, api.OK)
			want = append(want, d)
			checkNet(t, n, want, framesOf(want))
		}
	}
}

// N1: right frames of each kind lie and are heard, up to the greatest and the deepest one.
func TestSendAnyFrame(t *testing.T) {
	for _, frame := range (row{"g", "hg", "kg", "pgg", "sggg", "xi\x08g", "xgg", "i\x01", "i\x08", "t\x00\x00", "t\x00\x01\xff", "e\x01g", "e\x02gg", "ke\x01g", u(0), term.Name(1), hashes(400), wide(20000)}) {
		n := net.New()
		d := from(3, 5, frame)
		checkSend(t, n, d, api.OK)
		checkNet(t, n, []net.Datagram{d}, row{frame})
		checkTake(t, n, 0, d, api.OK)
		checkNet(t, n, nil, row{frame})
	}
}

// N1: what is wrong does not lie, and is not heard.
func TestSendWrong(t *testing.T) {
	n := sent(from(1, 2, "g"))
	same := func() { checkNet(t, n, []net.Datagram{from(1, 2, "g")}, row{"g"}) }
	for _, p := range noProcesses() {
		checkSend(t, n, from(p, 2, "hg"), api.ErrArg)
		checkSend(t, n, from(1, p, "hg"), api.ErrArg)
		checkSend(t, n, from(p, p, "hg"), api.ErrArg)
		same()
	}
	for _, frame := range wrongs() {
		checkSend(t, n, from(1, 2, frame), api.ErrArg)
		checkSend(t, n, from(0, 9, frame), api.ErrArg)
		same()
	}
	checkSend(t, n, net.Datagram{}, api.ErrArg)
	same()
}

// N1: 400 lie, not one more and not one less; what finds no room is lost, but heard.
func TestFull(t *testing.T) {
	l := datagrams(403)
	n := net.New()
	for i, d := range l[:400] {
		checkSend(t, n, d, api.OK)
		if n.Many() != i+1 {
			t.Fatal(i, n.Many())
		}
	}
	checkNet(t, n, l[:400], framesOf(l[:400]))
	checkSend(t, n, l[400], api.ErrFull)
	checkNet(t, n, l[:400], framesOf(l[:401]))
	checkSend(t, n, l[401], api.ErrFull)
	checkSend(t, n, l[400], api.ErrFull)
	checkSend(t, n, l[0], api.ErrFull)
	checkNet(t, n, l[:400], framesOf(l[:402]))
	checkTake(t, n, 7, l[7], api.OK)
	checkSend(t, n, l[402], api.OK)
	checkSend(t, n, l[7], api.ErrFull)
	var want []net.Datagram
	want = append(want, l[:7]...)
	want = append(want, l[8:400]...)
	checkNet(t, n, append(want, l[402]), framesOf(l))
}

// N1: in one that is full, what is wrong is told as that, and is not heard.
func TestFullWrong(t *testing.T) {
	l := datagrams(400)
	n := sent(l...)
	checkSend(t, n, from(0, 1, "g"), api.ErrArg)
	checkSend(t, n, from(1, 9, "g"), api.ErrArg)
	checkSend(t, n, from(1, 1, "gg"), api.ErrArg)
	checkNet(t, n, l, framesOf(l))
}

// N1: of each many, the one at each place is taken; all others go on lying, in order.
func TestTake(t *testing.T) {
	for many := 1; many <= 12; many++ {
		l := datagrams(many)
		for i := range l {
			n := sent(l...)
			checkTake(t, n, i, l[i], api.OK)
			var rest []net.Datagram
			rest = append(rest, l[:i]...)
			rest = append(rest, l[i+1:]...)
			checkNet(t, n, rest, framesOf(l))
		}
	}
}

// N1: a whole net is taken from its front, and from behind.
func TestTakeAll(t *testing.T) {
	l := datagrams(400)
	first, last := sent(l...), sent(l...)
	for i := range l {
		checkTake(t, first, 0, l[i], api.OK)
		checkNet(t, first, l[i+1:], framesOf(l))
		checkTake(t, last, 399-i, l[399-i], api.OK)
		checkNet(t, last, l[:399-i], framesOf(l))
	}
	checkTake(t, first, 0, net.Datagram{}, api.ErrNone)
	checkTake(t, last, 0, net.Datagram{}, api.ErrNone)
}

// N1: where none lies, Take and Double tell so, and change nothing.
func TestOutside(t *testing.T) {
	for _, many := range []int{1, 2, 7, 399, 400} {
		l := datagrams(many)
		n := sent(l...)
		for _, i := range outside(many) {
			checkTake(t, n, i, net.Datagram{}, api.ErrNone)
			checkDouble(t, n, i, api.ErrNone)
		}
		checkNet(t, n, l, framesOf(l))
	}
}

// N1: of each many, the one at each place is doubled: it stays where it lies, and another one like it lies behind all others; no frame is heard for that.
func TestDouble(t *testing.T) {
	for many := 1; many <= 12; many++ {
		l := datagrams(many)
		for i := range l {
			n := sent(l...)
			checkDouble(t, n, i, api.OK)
			both := append(datagrams(many), l[i])
			checkNet(t, n, both, framesOf(l))
			checkDouble(t, n, many, api.OK)
			checkNet(t, n, append(both, l[i]), framesOf(l))
			checkTake(t, n, i, l[i], api.OK)
			checkTake(t, n, many-1, l[i], api.OK)
			checkTake(t, n, many-1, l[i], api.OK)
		}
	}
}

// N1: what is doubled needs room as what is sent; in a full one, what does not lie is told ahead of that.
func TestDoubleFull(t *testing.T) {
	l := datagrams(399)
	n := sent(l...)
	checkDouble(t, n, 398, api.OK)
	full := append(datagrams(399), l[398])
	for _, i := range []int{0, 1, 200, 398, 399} {
		checkDouble(t, n, i, api.ErrFull)
	}
	checkDouble(t, n, 400, api.ErrNone)
	checkDouble(t, n, -1, api.ErrNone)
	checkSend(t, n, l[0], api.ErrFull)
	checkNet(t, n, full, framesOf(l))
	checkTake(t, n, 0, l[0], api.OK)
	checkDouble(t, n, 0, api.OK)
	checkDouble(t, n, 0, api.ErrFull)
	checkNet(t, n, append(full[1:], l[1]), framesOf(l))
}

// N1: one like another one is another one: the same may be sent again and again, and is taken as often.
func TestSame(t *testing.T) {
	d := from(4, 4, "hg")
	n := sent(d, d, d)
	checkNet(t, n, []net.Datagram{d, d, d}, row{"hg"})
	checkTake(t, n, 1, d, api.OK)
	checkNet(t, n, []net.Datagram{d, d}, row{"hg"})
	checkTake(t, n, 1, d, api.OK)
	checkTake(t, n, 0, d, api.OK)
	checkTake(t, n, 0, net.Datagram{}, api.ErrNone)
}
