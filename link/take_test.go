package link_test

import (
	"math"
	"slices"
	"testing"

	"gemot/api"
	"gemot/link"
	"gemot/term"
)

// K2: the chapter's example.
func TestExample(t *testing.T) {
	a, b := must(1, 2), must(2, 1)
	f, e := a.Send("g")
	if e != api.OK {
		t.Fatal(e)
	}
	reply := ack(2, 1, 1).frame()
	checkTake(t, b, f, row{"g"}, reply, api.OK)
	checkState(t, b, nil, 0, 1)
	checkTake(t, a, reply, nil, "", api.OK)
	checkState(t, a, nil, 1, 0)
}

// K2: what is no signature of the peer is told as parts.Check tells it, and changes nothing.
func TestTakeUnsigned(t *testing.T) {
	a := must(2, 1)
	frame := data(1, 2, 1, "g").frame()
	text := frame[3:]
	for _, w := range append(wrongs(), text, "g", "kg", "i\x01", "p"+frame+"g", "h"+frame, frame+"g", frame[:len(frame)-1], "s"+frame[1:]+"g") {
		checkTake(t, a, w, nil, "", api.ErrForm)
	}
	for from := 2; from <= 8; from++ {
		checkTake(t, a, data(from, 2, 1, "g").frame(), nil, "", api.ErrKey)
		checkTake(t, a, ack(from, 2, 1).frame(), nil, "", api.ErrKey)
		checkTake(t, a, signed(from, "g"), nil, "", api.ErrKey)
	}
	for _, key := range (row{"g", "kg", u(1), term.Name(1), "hi\x01", frame}) {
		checkTake(t, a, "x"+key+text, nil, "", api.ErrKey)
	}
	checkState(t, a, nil, 0, 0)
	checkTake(t, a, frame, row{"g"}, ack(2, 1, 1).frame(), api.OK)
}

// K2: an end takes its own frames no more than those of others.
func TestTakeOwn(t *testing.T) {
	a := must(1, 2)
	f, _ := a.Send("g")
	checkTake(t, a, f, nil, "", api.ErrKey)
	checkTake(t, a, ack(1, 2, 1).frame(), nil, "", api.ErrKey)
	checkState(t, a, row{f}, 1, 0)
}

// K2: what is signed must be a message: no other term is, whatever row it looks like.
func TestTakeNoMessage(t *testing.T) {
	a := must(2, 1)
	head := func(l ...int) row {
		var items row
		for _, n := range l {
			items = append(items, u(n))
		}
		return items
	}
	right := append(head(1, 0, 0, 0, 0, 1, 1, 2), "g")
	checkTake(t, must(2, 1), signed(1, spelt(right...)), row{"g"}, ack(2, 1, 1).frame(), api.OK)
	for i := range right {
		if i < 8 {
			for _, w := range (row{"g", "hg", term.Name(1), u(-1), u(math.MinInt), u(1 << 31), u(math.MaxInt), "t\x00\x01\x01", "pgg"}) {
				items := slices.Clone(right)
				items[i] = w
				checkTake(t, a, signed(1, spelt(items...)), nil, "", api.ErrForm)
			}
		}
		checkTake(t, a, signed(1, spelt(right[:i]...)), nil, "", api.ErrForm)
	}
	for _, text := range (row{"g", u(0), u(1), "pgg", "p" + u(1) + "g", spelt(right...)[:len(spelt(right...))-9] + u(1), spelt(spelt(right...)), signed(1, spelt(right...)), "h" + spelt(right...)}) {
		checkTake(t, a, signed(1, text), nil, "", api.ErrForm)
	}
	for _, l := range []row{head(1, 0, 0, 0, 0, 1, 9, 1, 2, 3, 4, 5, 6, 7, 8, 9), head(1, 0, 0, 0, 0, 1, 2, 2, 2), head(21, 0, 0, 0, 0, 1, 1, 2), head(1, 0, 9, 0, 0, 1, 1, 2)} {
		checkTake(t, a, signed(1, spelt(append(l, "g")...)), nil, "", api.ErrForm)
	}
	checkState(t, a, nil, 0, 0)
}

// K2: a message that says more or other things than a frame does is none for this end, be it data or an ack.
func TestTakeOtherMessage(t *testing.T) {
	a, p := must(2, 1), newPlain(2, 1)
	for n := range 3 {
		p.send(u(n))
		a.Send(u(n))
	}
	for _, right := range []letter{data(1, 2, 1, "g"), ack(1, 2, 1)} {
		for i, change := range []func(*letter){
			func(l *letter) { l.kind = 0 },
			func(l *letter) { l.kind += 2 },
			func(l *letter) { l.kind = 9 },
			func(l *letter) { l.kind = 20 },
			func(l *letter) { l.kind = 3 - l.kind; l.number = 0 },
			func(l *letter) { l.members = nil },
			func(l *letter) { l.members = []int{1} },
			func(l *letter) { l.members = []int{3} },
			func(l *letter) { l.members = []int{1, 2} },
			func(l *letter) { l.members = []int{2, 3} },
			func(l *letter) { l.members = []int{1, 2, 3, 4, 5, 6, 7, 8} },
			func(l *letter) { l.epoch = 1 },
			func(l *letter) { l.epoch = 1<<31 - 1 },
			func(l *letter) { l.coord = 1 },
			func(l *letter) { l.oldEpoch = 1 },
			func(l *letter) { l.oldC = 8 },
			func(l *letter) { l.epoch, l.coord, l.oldEpoch, l.oldC = 2, 2, 2, 2 },
			func(l *letter) { l.terms = append(l.terms, "g", "g") },
			func(l *letter) { l.terms = append(l.terms, l.terms...); l.terms = append(l.terms, u(0)); l.number = 0 },
		} {
			l := right
			change(&l)
			if f := l.frame(); f != right.frame() {
				checkTake(t, a, f, nil, "", api.ErrForm)
			} else {
				t.Error(i, "nothing was changed")
			}
			checkPlain(t, a, p)
		}
	}
}

// K2: data has one term and a number of 1 or more; an ack has no term, and a number of any size.
func TestTakeTerms(t *testing.T) {
	a := must(2, 1)
	a.Send("g")
	for _, l := range []letter{
		{from: 1, kind: 1, number: 1, members: []int{2}},
		{from: 1, kind: 1, number: 1, members: []int{2}, terms: row{"g", "g"}},
		{from: 1, kind: 1, number: 1, members: []int{2}, terms: row{"g", "hg", "kg"}},
		{from: 1, kind: 1, number: 0, members: []int{2}, terms: row{"g"}},
		{from: 1, kind: 1, number: 0, members: []int{2}},
		{from: 1, kind: 2, number: 1, members: []int{2}, terms: row{"g"}},
		{from: 1, kind: 2, number: 0, members: []int{2}, terms: row{"g"}},
		{from: 1, kind: 2, number: 2, members: []int{2}, terms: row{"g", "g"}},
	} {
		checkTake(t, a, l.frame(), nil, "", api.ErrForm)
	}
	checkState(t, a, row{data(2, 1, 1, "g").frame()}, 1, 0)
	checkTake(t, a, ack(1, 2, 0).frame(), nil, "", api.ErrOld)
	checkTake(t, a, ack(1, 2, 1<<31-1).frame(), nil, "", api.ErrArg)
	checkTake(t, a, data(1, 2, 1<<31-1, "g").frame(), nil, ack(2, 1, 0).frame(), api.ErrFull)
	checkTake(t, a, data(1, 2, 1, u(0)).frame(), row{u(0)}, ack(2, 1, 1).frame(), api.OK)
}

// sentAndCome is an end at which so many were sent, and so many of these are known to have come.
func sentAndCome(t *testing.T, sent, come int) (*link.End, *plain) {
	t.Helper()
	a, p := must(4, 7), newPlain(4, 7)
	acked := func(number int) {
		l := ack(7, 4, number)
		_, _, e := p.take(l)
		checkTake(t, a, l.frame(), nil, "", e)
	}
	for n := range sent {
		if n-p.come == link.Room {
			acked(min(n, come))
		}
		l, e := p.send(u(n))
		checkSend(t, a, u(n), l.frame(), e)
	}
	acked(come)
	return a, p
}

// K2: each ack, at each place of an end with some that are open: above those sent, old, or one that opens less.
func TestTakeAck(t *testing.T) {
	for _, sent := range []int{0, 1, 2, 3, 63, 64, 65, 66, 130} {
		for come := max(0, sent-64); come <= sent; come++ {
			for _, number := range []int{0, 1, come - 1, come, come + 1, (come + sent) / 2, sent - 1, sent, sent + 1, sent + 64, 1<<31 - 1} {
				if number < 0 {
					continue
				}
				a, p := sentAndCome(t, sent, come)
				want := api.OK
				if number > sent {
					want = api.ErrArg
				} else if number <= come {
					want = api.ErrOld
				} else {
					p.come = number
				}
				checkTake(t, a, ack(7, 4, number).frame(), nil, "", want)
				checkPlain(t, a, p)
			}
		}
	}
}

// K2: one by one, each is taken as it comes, and no more when it comes again; the reply is of all that was taken.
func TestTakeOneByOne(t *testing.T) {
	a := must(2, 1)
	for n := 1; n <= 200; n++ {
		for again := max(1, n-40); again < n; again++ {
			checkTake(t, a, data(1, 2, again, "hg").frame(), nil, ack(2, 1, n-1).frame(), api.ErrOld)
		}
		checkTake(t, a, data(1, 2, n, u(n)).frame(), row{u(n)}, ack(2, 1, n).frame(), api.OK)
		checkState(t, a, nil, 0, n)
	}
}

// K2: what comes early waits up to 32 above what was taken, and no higher; where it waits already, the first one stays.
func TestTakeAhead(t *testing.T) {
	for _, taken := range []int{0, 1, 31, 32, 33, 100} {
		a := must(2, 1)
		for n := 1; n <= taken; n++ {
			checkTake(t, a, data(1, 2, n, u(n)).frame(), row{u(n)}, ack(2, 1, n).frame(), api.OK)
		}
		reply := ack(2, 1, taken).frame()
		for _, above := range []int{33, 34, 64, 65, 1000, 1<<31 - 1 - taken} {
			checkTake(t, a, data(1, 2, taken+above, "hg").frame(), nil, reply, api.ErrFull)
		}
		for above := 32; above > 1; above-- {
			checkTake(t, a, data(1, 2, taken+above, u(taken+above)).frame(), nil, reply, api.OK)
			checkTake(t, a, data(1, 2, taken+above, "hg").frame(), nil, reply, api.ErrOld)
			checkTake(t, a, data(1, 2, taken+33, "hg").frame(), nil, reply, api.ErrFull)
			checkState(t, a, nil, 0, taken)
		}
		var want row
		for above := 1; above <= 32; above++ {
			want = append(want, u(taken+above))
		}
		checkTake(t, a, data(1, 2, taken+1, u(taken+1)).frame(), want, ack(2, 1, taken+32).frame(), api.OK)
		checkState(t, a, nil, 0, taken+32)
		checkTake(t, a, data(1, 2, taken+33, "g").frame(), row{"g"}, ack(2, 1, taken+33).frame(), api.OK)
	}
}

// K2: as long as the next one waits, it is taken, and no longer: every order of five.
func TestTakeOrders(t *testing.T) {
	var orders func(ahead, left []int)
	orders = func(ahead, left []int) {
		for i, n := range left {
			orders(append(slices.Clone(ahead), n), slices.Delete(slices.Clone(left), i, i+1))
		}
		if len(left) > 0 {
			return
		}
		a, p := must(2, 1), newPlain(2, 1)
		for _, n := range ahead {
			l := data(1, 2, n, u(n))
			want, reply, e := p.take(l)
			checkTake(t, a, l.frame(), want, reply.frame(), e)
			checkPlain(t, a, p)
		}
		if p.taken != 5 {
			t.Fatal(ahead, p.taken)
		}
	}
	orders(nil, []int{1, 2, 3, 4, 5})
}

// K2: what is sent and what is taken are counted apart.
func TestTakeBothWays(t *testing.T) {
	a := must(1, 2)
	a.Send("g")
	a.Send("hg")
	open := frames([]letter{data(1, 2, 1, "g"), data(1, 2, 2, "hg")})
	checkTake(t, a, data(2, 1, 1, "kg").frame(), row{"kg"}, ack(1, 2, 1).frame(), api.OK)
	checkState(t, a, open, 2, 1)
	checkTake(t, a, data(2, 1, 3, "kg").frame(), nil, ack(1, 2, 1).frame(), api.OK)
	checkTake(t, a, ack(2, 1, 1).frame(), nil, "", api.OK)
	checkState(t, a, open[1:], 2, 1)
	checkTake(t, a, data(2, 1, 2, "g").frame(), row{"g", "kg"}, ack(1, 2, 3).frame(), api.OK)
	checkTake(t, a, ack(2, 1, 3).frame(), nil, "", api.ErrArg)
	checkState(t, a, open[1:], 2, 3)
}

// K2, and P3 of the whole: the bodies that are answered are a list of their own.
func TestTakeNew(t *testing.T) {
	a := must(2, 1)
	a.Take(data(1, 2, 2, "hg").frame())
	first, _, _ := a.Take(data(1, 2, 1, "g").frame())
	second, _, _ := a.Take(data(1, 2, 3, "kg").frame())
	_ = append(first, "g")
	first[1] = "g"
	if !slices.Equal(second, row{"kg"}) {
		t.Error(show(second...))
	}
	checkTake(t, a, data(1, 2, 4, "g").frame(), row{"g"}, ack(2, 1, 4).frame(), api.OK)
}
