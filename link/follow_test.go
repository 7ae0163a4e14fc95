package link_test

import (
	"math/rand"
	"slices"
	"testing"

	"gemot/api"
	"gemot/link"
	"gemot/term"
)

// side is an end, what its chapter says of it, and what was ever handed in to it and out of it.
type side struct {
	end  *link.End
	says *plain
	in   row
	out  row
}

func newSide(me, peer int) *side { return &side{end: must(me, peer), says: newPlain(me, peer)} }

// send sends a body, and tells the letter, if there was room for it.
func (s *side) send(t *testing.T, body term.Term) []letter {
	t.Helper()
	l, e := s.says.send(body)
	if e != api.OK {
		checkSend(t, s.end, body, "", e)
		return nil
	}
	checkSend(t, s.end, body, l.frame(), e)
	s.in = append(s.in, body)
	return []letter{l}
}

// take takes a letter, and tells what is replied.
func (s *side) take(t *testing.T, l letter) []letter {
	t.Helper()
	if l.from != s.says.peer {
		checkTake(t, s.end, l.frame(), nil, "", api.ErrKey)
		return nil
	}
	want, reply, e := s.says.take(l)
	s.out = append(s.out, want...)
	if reply == nil {
		checkTake(t, s.end, l.frame(), want, "", e)
		return nil
	}
	checkTake(t, s.end, l.frame(), want, reply.frame(), e)
	return []letter{*reply}
}

// other is the side that a letter goes to.
func other(a, b *side, l letter) *side {
	if l.members[0] == a.says.me {
		return a
	}
	return b
}

// K1, K2 and K3: two ends over a net that loses, doubles and turns; then all that is open is sent again, and comes.
func TestNet(t *testing.T) {
	r := rand.New(rand.NewSource(7))
	for range 60 {
		me := 1 + r.Intn(8)
		peer := 1 + (me+r.Intn(7))%8
		a, b := newSide(me, peer), newSide(peer, me)
		sides := []*side{a, b}
		var net []letter
		sends, loses := 1+r.Intn(5), r.Intn(5)
		for range 500 {
			s := sides[r.Intn(2)]
			switch n := r.Intn(12); {
			case n < sends:
				net = append(net, s.send(t, some(r))...)
			case n == 6:
				net = append(net, s.says.again()...)
			case n == 7:
				checkPlain(t, s.end, s.says)
			case len(net) > 0:
				i := r.Intn(len(net))
				l := net[i]
				if r.Intn(4) > 0 {
					net = slices.Delete(net, i, i+1)
				}
				if r.Intn(8) >= loses {
					net = append(net, other(a, b, l).take(t, l)...)
				}
			}
			if len(net) > 300 {
				net = net[200:]
			}
			checkBegins(t, a.out, b.in)
			checkBegins(t, b.out, a.in)
		}
		allComes(t, r, a, b)
		allComes(t, r, b, a)
	}
}

// checkBegins: what was taken is the beginning of what was sent.
func checkBegins(t *testing.T, out, in row) {
	t.Helper()
	if len(out) > len(in) || !slices.Equal(out, in[:len(out)]) {
		t.Fatalf("%s taken, %s sent", show(out...), show(in...))
	}
}

// allComes has all that is open come once, in order; or twice, in any order, as what is too far ahead must come again.
func allComes(t *testing.T, r *rand.Rand, from, to *side) {
	t.Helper()
	turned := r.Intn(2) == 0
	rounds := 1
	if turned {
		rounds = 2
	}
	for range rounds {
		l := from.says.again()
		checkPlain(t, from.end, from.says)
		if turned {
			r.Shuffle(len(l), func(i, j int) { l[i], l[j] = l[j], l[i] })
		}
		for _, x := range l {
			for _, reply := range to.take(t, x) {
				from.take(t, reply)
			}
		}
	}
	if !slices.Equal(to.out, from.in) {
		t.Fatalf("%s taken, %s sent", show(to.out...), show(from.in...))
	}
	checkState(t, from.end, nil, len(from.in), len(from.out))
	checkPlain(t, to.end, to.says)
}

// K3: all that is open comes in order though nothing of it, and no ack, ever came before: one pass takes all 64.
func TestAllAtOnce(t *testing.T) {
	a, b := newSide(1, 2), newSide(2, 1)
	for n := range 64 {
		a.send(t, u(n))
	}
	var last []letter
	for _, l := range a.says.again() {
		last = b.take(t, l)
	}
	if !slices.Equal(b.out, a.in) {
		t.Fatal(show(b.out...))
	}
	a.take(t, last[0])
	checkState(t, a.end, nil, 64, 0)
}

// K1 and K2: any letters of a peer that says what it likes, and of others, against the chapter's words.
func TestAnyLetters(t *testing.T) {
	r := rand.New(rand.NewSource(8))
	for range 60 {
		me := 1 + r.Intn(8)
		peer := 1 + (me+r.Intn(7))%8
		s := newSide(me, peer)
		for range 500 {
			near := max(1, s.says.taken+r.Intn(40)-4)
			switch r.Intn(8) {
			case 0, 1:
				s.send(t, some(r))
			case 2:
				s.take(t, ack(peer, me, max(0, len(s.says.sent)+3-r.Intn(20))))
			case 3:
				s.take(t, data(peer, me, 1+r.Intn(1<<31-1), some(r)))
			case 4:
				s.take(t, data(1+r.Intn(8), me, near, some(r)))
			default:
				s.take(t, data(peer, me, near, some(r)))
			}
		}
		checkPlain(t, s.end, s.says)
	}
}

// P4 of the whole: two ends that are handed the same tell the same, and know nothing of one another.
func TestApart(t *testing.T) {
	r := rand.New(rand.NewSource(9))
	a, b, idle := must(1, 2), must(1, 2), must(1, 2)
	for range 500 {
		body, f := some(r), data(2, 1, 1+r.Intn(40), some(r)).frame()
		if r.Intn(3) == 0 {
			f = ack(2, 1, r.Intn(100)).frame()
		}
		fa, ea := a.Send(body)
		checkSend(t, b, body, fa, ea)
		la, ra, ea := a.Take(f)
		checkTake(t, b, f, la, ra, ea)
		sent, taken := a.State()
		checkState(t, b, a.Again(), sent, taken)
	}
	checkState(t, idle, nil, 0, 0)
}
