package net_test

import (
	"math/rand"
	"slices"
	"testing"

	"gemot/api"
	"gemot/net"
	"gemot/term"
)

// N1: what was heard is told by bytes, whatever the order was in which it came, and each once, whoever sent it.
func TestHeardOrder(t *testing.T) {
	l := row{"e\x01g", "g", "hg", "hhg", "i\x01", "i\x08", "kg", term.Name(1), term.Name(1 << 63), "pgg", "pghg", "phgg", "t\x00\x00", "t\x00\x01\x7f", "t\x00\x01\x80", "t\x00\x01\xff", "t\x00\x02aa", u(0), u(127), u(128), u(255), u(256), "xgg", "xi\x01g"}
	if !slices.IsSorted(l) {
		t.Fatal("the test's own row is not in order")
	}
	r := rand.New(rand.NewSource(8))
	for range 200 {
		n := net.New()
		turned := slices.Concat(l, l[:r.Intn(len(l))])
		r.Shuffle(len(turned), func(i, j int) { turned[i], turned[j] = turned[j], turned[i] })
		for _, frame := range turned {
			checkSend(t, n, from(1+r.Intn(8), 1+r.Intn(8), frame), api.OK)
		}
		for range 3 {
			if got := n.Heard(); !slices.Equal(got, l) {
				t.Fatalf("%q", got)
			}
		}
	}
}

// N2: what was heard stays heard, though it lies no more, or never lay; there may be far more of it than there is room for.
func TestHeardStays(t *testing.T) {
	l := datagrams(3000)
	n := net.New()
	for i, d := range l {
		want := api.OK
		if i >= 400 {
			want = api.ErrFull
		}
		checkSend(t, n, d, want)
	}
	checkNet(t, n, l[:400], framesOf(l))
	for n.Many() > 0 {
		checkTake(t, n, n.Many()/2, n.Lie()[n.Many()/2], api.OK)
	}
	checkNet(t, n, nil, framesOf(l))
	checkSend(t, n, from(1, 2, "g"), api.OK)
	checkNet(t, n, []net.Datagram{from(1, 2, "g")}, append(row{"g"}, framesOf(l)...))
}

// N1, and P3 of the whole: what Lie and Heard answer is new each time; what is done with it is not seen in the net, nor what is done with the net in it.
func TestNewLists(t *testing.T) {
	l := datagrams(5)
	n := sent(l...)
	lie, other, heard, ever := n.Lie(), n.Lie(), n.Heard(), n.Heard()
	_ = append(lie, from(1, 1, "g"))
	_ = append(heard, "g")
	for i := range lie {
		lie[i], heard[i] = net.Datagram{}, ""
	}
	checkNet(t, n, l, framesOf(l))
	checkTake(t, n, 0, l[0], api.OK)
	checkDouble(t, n, 2, api.OK)
	checkSend(t, n, from(1, 1, "g"), api.OK)
	if !slices.Equal(other, l) || !slices.Equal(ever, framesOf(l)) {
		t.Error(show(other...), ever)
	}
	if lie[4] != (net.Datagram{}) || heard[4] != "" {
		t.Error("a net writes into what it answered")
	}
	checkNet(t, n, []net.Datagram{l[1], l[2], l[3], l[4], l[3], from(1, 1, "g")}, append(row{"g"}, framesOf(l)...))
}

// P4 of the whole: nets that are done the same with tell the same, and know nothing of one another.
func TestApart(t *testing.T) {
	r := rand.New(rand.NewSource(9))
	a, b, idle := net.New(), net.New(), net.New()
	for range 3000 {
		d, i := some(r), r.Intn(450)
		checkSend(t, b, d, a.Send(d))
		switch r.Intn(4) {
		case 0:
			checkDouble(t, b, i, a.Double(i))
		case 1:
			took, e := a.Take(i)
			checkTake(t, b, i, took, e)
		}
	}
	checkNet(t, b, a.Lie(), a.Heard())
	checkNet(t, idle, nil, nil)
}

// N1 and N2: all calls in any order, right and wrong, against the chapter's words; nets that are nearly empty, half full, and full.
func TestAgainstPlain(t *testing.T) {
	r := rand.New(rand.NewSource(10))
	bad, no := wrongs(), noProcesses()
	for round := range 60 {
		n, p := net.New(), &plain{}
		if round%3 == 0 {
			for range 380 + r.Intn(20) {
				d := some(r)
				checkSend(t, n, d, p.send(d))
			}
		}
		adds := 2 + r.Intn(6)
		for range 300 {
			i := r.Intn(len(p.lies)+3) - 1
			d := some(r)
			switch kind := r.Intn(10); {
			case kind < adds && kind < 2:
				checkDouble(t, n, i, p.double(i))
			case kind < adds:
				checkSend(t, n, d, p.send(d))
			case kind < 8:
				want, e := p.take(i)
				checkTake(t, n, i, want, e)
			case kind == 8:
				d = []net.Datagram{from(no[r.Intn(len(no))], d.To, d.Frame), from(d.From, no[r.Intn(len(no))], d.Frame), from(d.From, d.To, bad[r.Intn(len(bad))])}[r.Intn(3)]
				checkSend(t, n, d, api.ErrArg)
			default:
				checkPlain(t, n, p)
			}
		}
		checkPlain(t, n, p)
	}
}
