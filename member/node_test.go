package member_test

import (
	"math"
	"testing"

	"gemot/api"
	"gemot/member"
)

// M1: a node of 1 to 8, and no other one.
func TestNew(t *testing.T) {
	for _, me := range []int{1, 2, 3, 4, 5, 6, 7, 8} {
		n := begin(t, me)
		is(t, n, state{view: of(0, me, me), promised: id(0, me)})
	}
	for _, me := range []int{0, -1, 9, 10, 256 + 1, 1<<32 + 1, math.MaxInt, math.MinInt, math.MinInt + 1} {
		if n, e := member.New(me); n != nil || e != api.ErrArg {
			t.Errorf("%d: error %d", me, e)
		}
	}
}

// The kinds and the bound that the chapter names.
func TestConstants(t *testing.T) {
	if member.Propose != 3 || member.Tell != 4 || member.Install != 5 || member.Cast != 6 || member.Deliver != 1 || member.Enter != 2 || member.MaxEarly != 256 {
		t.Error("constants")
	}
}

// M1: an id that is above what was seen is seen: the next one is above it.
func TestHeed(t *testing.T) {
	for i, c := range []struct {
		heeded []api.Id
		epoch  int // of what is suggested behind that
	}{
		{[]api.Id{id(4, 7)}, 5},
		{[]api.Id{id(0, 2)}, 1},
		{[]api.Id{id(4, 7), id(3, 8)}, 5},
		{[]api.Id{id(3, 8), id(4, 1)}, 5},
		{[]api.Id{id(4, 7), id(-1, 9), id(0, 0)}, 5},
		{[]api.Id{id(9, -5)}, 10},
		{[]api.Id{id(9, 1<<40)}, 10},
		{[]api.Id{id(3, 1), id(top, 1), id(top+1, 1), id(math.MaxInt, 8)}, 4},
		{[]api.Id{id(top-2, 8)}, top - 1},
	} {
		n := begin(t, 1)
		for _, h := range c.heeded {
			n.Heed(h)
			is(t, n, state{view: of(0, 1, 1), promised: id(0, 1)})
		}
		suggest(t, n, []int{1}, nil, []member.Event{enter(of(c.epoch, 1, 1))})
		if n.Promised() != id(c.epoch, 1) {
			t.Errorf("%d: %v", i, n.Promised())
		}
	}
}

// M1: what is not above what was seen is not seen: the seen id is the promised one still, and there is nothing to suggest.
func TestHeedNothing(t *testing.T) {
	for _, h := range []api.Id{id(0, 3), id(0, 2), id(0, 0), id(0, -1), id(-1, 8), id(math.MinInt, 8), id(top, 1), id(top, 8), id(top+1, 1), id(1<<32, 1), id(math.MaxInt, 1)} {
		n := begin(t, 3)
		n.Heed(h)
		suggest(t, n, []int{3}, nil, nil)
		is(t, n, state{view: of(0, 3, 3), promised: id(0, 3)})
	}
}

// M1: of one epoch the greater coord is above.
func TestHeedCoord(t *testing.T) {
	n := begin(t, 3)
	n.Heed(id(0, 4))
	suggest(t, n, []int{3}, nil, []member.Event{enter(of(1, 3, 3))})
	n.Heed(id(1, 3))
	suggest(t, n, []int{3}, nil, nil)
	n.Heed(id(1, 4))
	suggest(t, n, []int{3}, nil, []member.Event{enter(of(2, 3, 3))})
}

// M1: View, Promised, Flushing and Logs, as a view is gone through.
func TestState(t *testing.T) {
	n := begin(t, 2)
	n.Cast("g")
	mine := log(2, "g")
	is(t, n, state{of(0, 2, 2), id(0, 2), false, logs(mine)})
	n.Take(1, propose(id(3, 1), 1, 2, 5))
	is(t, n, state{of(0, 2, 2), id(3, 1), true, logs(mine)})
	n.Take(5, propose(id(4, 5), 2, 5))
	is(t, n, state{of(0, 2, 2), id(4, 5), true, logs(mine)})
	n.Take(5, install(id(4, 5), []int{2, 5}))
	is(t, n, state{of(4, 5, 2, 5), id(4, 5), false, nil})
	n.Take(5, casting(id(4, 5), 1, "hg"))
	n.Cast("kg")
	n.Take(5, casting(id(4, 5), 2, "hg"))
	is(t, n, state{of(4, 5, 2, 5), id(4, 5), false, logs(log(2, "kg"), log(5, "hg", "hg"))})
	n.Suggest([]int{2, 8})
	is(t, n, state{of(4, 5, 2, 5), id(5, 2), true, logs(log(2, "kg"), log(5, "hg", "hg"))})
}
