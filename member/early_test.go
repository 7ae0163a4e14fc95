package member_test

import (
	"math"
	"testing"

	"gemot/api"
	"gemot/list"
	"gemot/member"
	"gemot/term"
)

// M4, CAST: in order, of each sender by itself.
func TestTakeCast(t *testing.T) {
	n := inView(t, 2, 5, 1, 2, 3)
	v := of(5, 1, 1, 2, 3)
	for _, c := range []struct {
		from, number int
		item         term.Term
	}{{1, 1, "g"}, {1, 2, "g"}, {3, 1, "hg"}, {1, 3, wide(20000)}, {3, 2, hashes(400)}} {
		take(t, n, c.from, casting(v.Id, c.number, c.item), nil, []member.Event{deliver(v, c.from, c.number, c.item)})
		still(t, n, c.from, casting(v.Id, c.number, c.item))
		still(t, n, c.from, casting(v.Id, c.number+2, c.item))
	}
	is(t, n, state{v, v.Id, false, logs(log(1, "g", "g", wide(20000)), log(3, "hg", hashes(400)))})
}

// M4, CAST: whatever is not as it says.
func TestTakeCastWrong(t *testing.T) {
	n := inView(t, 2, 5, 1, 2, 3)
	v := of(5, 1, 1, 2, 3)
	n.Take(1, casting(v.Id, 1, "g"))
	n.Cast("g")
	for _, c := range []struct {
		from int
		m    list.Message
	}{
		// Number.
		{1, casting(v.Id, 0, "g")},
		{1, casting(v.Id, -1, "g")},
		{1, casting(v.Id, 1, "g")},
		{1, casting(v.Id, 3, "g")},
		{1, casting(v.Id, math.MinInt, "g")},
		{1, casting(v.Id, 2+1<<32, "g")},
		{3, casting(v.Id, 2, "g")},
		// One term.
		{1, casting(v.Id, 2)},
		{1, casting(v.Id, 2, "g", "hg")},
		{1, casting(v.Id, 2, make(row, 1<<18)...)},
		// From.
		{2, casting(v.Id, 1, "g")},
		{2, casting(v.Id, 2, "g")},
		{4, casting(v.Id, 1, "g")},
		{8, casting(v.Id, 1, "g")},
		{0, casting(v.Id, 1, "g")},
		{9, casting(v.Id, 1, "g")},
		{-1, casting(v.Id, 1, "g")},
		{1 + 1<<32, casting(v.Id, 1, "g")},
		{math.MaxInt, casting(v.Id, 1, "g")},
		{math.MinInt, casting(v.Id, 1, "g")},
		// Id is below that of its view.
		{1, casting(id(4, 1), 2, "g")},
		{1, casting(id(5, 0), 2, "g")},
		{1, casting(id(0, 2), 2, "g")},
		{1, casting(id(-1, 9), 2, "g")},
		{1, casting(id(math.MinInt, 1), 2, "g")},
	} {
		still(t, n, c.from, c.m)
	}
	n.Take(3, propose(id(6, 3), 2, 3)) // flushing
	still(t, n, 1, casting(v.Id, 2, "g"))
	still(t, n, 3, casting(v.Id, 1, "g"))
	// None of all that waited.
	take(t, n, 3, install(id(6, 3), []int{2, 3}), nil, []member.Event{enter(of(6, 3, 2, 3))})
	is(t, n, state{view: of(6, 3, 2, 3), promised: id(6, 3)})
}

// M4, CAST: more than 32 of one may come, as no word bounds what is taken; no word speaks of its Old and Members.
func TestTakeCastMany(t *testing.T) {
	n := inView(t, 2, 5, 1, 2)
	v := of(5, 1, 1, 2)
	for i := range 200 {
		m := casting(v.Id, i+1, "g")
		m.Old, m.Members = id(-1, i), []int{i, 1}
		take(t, n, 1, m, nil, []member.Event{deliver(v, 1, i+1, "g")})
	}
}

// M4, CAST: what is for an id above its view's waits, and is gone through in order, as if it came then.
func TestEarly(t *testing.T) {
	n := inView(t, 2, 5, 1, 2)
	next, later := of(7, 3, 2, 3, 4), of(9, 3, 2, 3)
	for _, c := range []struct {
		from, number int
		of           api.Id
		item         term.Term
	}{
		{3, 2, next.Id, "g"}, // not in order, and so it is lost
		{3, 1, next.Id, "hg"},
		{3, 1, later.Id, "kg"},
		{4, 1, next.Id, "kg"},
		{4, 2, next.Id, "khg"},
		{3, 2, next.Id, "kg"},
		{3, 2, next.Id, "hhg"}, // a second one
		{1, 1, next.Id, "g"},   // no member there
		{9, 1, next.Id, "g"},
		{-1, 1, next.Id, "g"},
		{1, 1, id(5, 2), "g"}, // less than the next one
		{4, 1, id(7, 2), "g"},
		{4, 1, id(7, 4), "g"}, // above the next one
		{4, 2, later.Id, "g"}, // no member there
		{3, 2, later.Id, "g"},
	} {
		still(t, n, c.from, casting(c.of, c.number, c.item))
	}
	n.Take(3, propose(next.Id, next.Members...))
	still(t, n, 4, casting(next.Id, 3, "g"))
	take(t, n, 3, install(next.Id, next.Members, join(part(5, 1, 1, "g"))...), nil, []member.Event{
		deliver(of(5, 1, 1, 2), 1, 1, "g"), enter(next), deliver(next, 3, 1, "hg"), deliver(next, 4, 1, "kg"), deliver(next, 4, 2, "khg"), deliver(next, 3, 2, "kg"), deliver(next, 4, 3, "g"),
	})
	is(t, n, state{next, next.Id, false, logs(log(3, "hg", "kg"), log(4, "kg", "khg", "g"))})
	n.Take(3, propose(later.Id, later.Members...))
	take(t, n, 3, install(later.Id, later.Members), nil, []member.Event{enter(later), deliver(later, 3, 1, "kg"), deliver(later, 3, 2, "g")})
	is(t, n, state{later, later.Id, false, logs(log(3, "kg", "g"))})
}

// M4, CAST: it waits whether the node is flushing or not, and for whichever id above that of its view: below the promised one, too.
func TestEarlyFlushing(t *testing.T) {
	n := inView(t, 2, 5, 1, 2)
	n.Take(3, propose(id(8, 3), 2, 3))
	still(t, n, 1, casting(id(6, 1), 1, "g"))
	still(t, n, 1, casting(id(9, 1), 1, "hg"))
	n.Take(1, propose(id(9, 1), 1, 2))
	take(t, n, 1, install(id(9, 1), []int{1, 2}), nil, []member.Event{enter(of(9, 1, 1, 2)), deliver(of(9, 1, 1, 2), 1, 1, "hg")})
}

// M4, CAST: early ones are gone through when one's own plan is finished, too, and when it is alone.
func TestEarlyOfOnesPlan(t *testing.T) {
	n := begin(t, 1)
	still(t, n, 2, casting(id(1, 1), 1, "g"))
	n.Suggest([]int{1, 2})
	still(t, n, 2, casting(id(1, 1), 2, "hg"))
	v := of(1, 1, 1, 2)
	take(t, n, 2, tell(v.Id, id(0, 2)), all(install(v.Id, v.Members), 2), []member.Event{enter(v), deliver(v, 2, 1, "g"), deliver(v, 2, 2, "hg")})
	still(t, n, 2, casting(id(2, 1), 1, "g"))
	suggest(t, n, []int{1}, nil, []member.Event{enter(of(2, 1, 1))})
}

// M4, CAST: 256 wait at most; what is not to wait takes no room.
func TestEarlyRoom(t *testing.T) {
	n := inView(t, 2, 5, 1, 2)
	v := of(6, 1, 1, 2)
	for i := range 255 {
		still(t, n, 1, casting(v.Id, i+1, "g"))
	}
	for range 3 {
		still(t, n, 1, casting(v.Id, 0, "g"))
		still(t, n, 1, casting(v.Id, -1, "g"))
		still(t, n, 1, casting(v.Id, 256))
		still(t, n, 1, casting(v.Id, 256, "g", "g"))
		still(t, n, 2, casting(v.Id, 256, "g"))
		still(t, n, 1, casting(id(5, 1), 2, "g"))
		still(t, n, 1, casting(id(4, 1), 2, "g"))
	}
	still(t, n, 1, casting(v.Id, 256, "hg"))
	still(t, n, 1, casting(v.Id, 257, "hg"))
	still(t, n, 1, casting(v.Id, 256, "hg"))
	n.Take(1, propose(v.Id, v.Members...))
	_, events := n.Take(1, install(v.Id, v.Members))
	if len(events) != 257 || !sameEvents(events[:2], []member.Event{enter(v), deliver(v, 1, 1, "g")}) || !sameEvents(events[256:], []member.Event{deliver(v, 1, 256, "hg")}) {
		t.Fatal(len(events), show(events))
	}
	take(t, n, 1, casting(v.Id, 257, "kg"), nil, []member.Event{deliver(v, 1, 257, "kg")})
}

// M4, CAST: the rest stays, and keeps its room; what is forgotten gives it free.
func TestEarlyRoomAnew(t *testing.T) {
	n := inView(t, 2, 5, 1, 2)
	last := of(9, 1, 1, 2)
	for i := range 100 {
		still(t, n, 1, casting(id(6, 1), i+1, "g"))
		still(t, n, 1, casting(last.Id, i+1, "hg"))
		still(t, n, 1, casting(id(7, 1), i+2, "g"))
	}
	n.Take(1, propose(id(7, 1), 1, 2))
	take(t, n, 1, install(id(7, 1), []int{1, 2}), nil, []member.Event{enter(of(7, 1, 1, 2))})
	// 256 waited, and so 85 of the last view; 171 more have room.
	want := []member.Event{enter(last)}
	for i := range 300 {
		still(t, n, 1, casting(last.Id, 86+i, "kg"))
	}
	for i := range 256 {
		item := term.Term("hg")
		if i >= 85 {
			item = "kg"
		}
		want = append(want, deliver(last, 1, i+1, item))
	}
	n.Take(1, propose(last.Id, last.Members...))
	take(t, n, 1, install(last.Id, last.Members), nil, want)
}
