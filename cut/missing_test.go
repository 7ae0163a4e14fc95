package cut_test

import (
	"math/rand"
	"testing"

	"gemot/api"
	"gemot/cut"
)

// C2: of each part with that Old, in order, the others of its items, where it begins with the log, and is more.
func TestMissing(t *testing.T) {
	v := id(1, 2)
	gh := []cut.Part{part(1, 2, 1, "g", "hg")}
	for i, c := range []struct {
		l    []cut.Part
		old  api.Id
		logs []cut.Log
		want []cut.Log
	}{
		{nil, v, nil, nil},
		{nil, v, []cut.Log{log(1, "g")}, nil},
		// No log of the sender, or one of nothing: all lacks.
		{gh, v, nil, []cut.Log{log(1, "g", "hg")}},
		{gh, v, []cut.Log{log(1)}, []cut.Log{log(1, "g", "hg")}},
		{gh, v, []cut.Log{log(2, "g")}, []cut.Log{log(1, "g", "hg")}},
		// A beginning; all of it; more than that; another one.
		{gh, v, []cut.Log{log(1, "g")}, []cut.Log{log(1, "hg")}},
		{gh, v, []cut.Log{log(1, "g", "hg")}, nil},
		{gh, v, []cut.Log{log(1, "g", "hg", "kg")}, nil},
		{gh, v, []cut.Log{log(1, "hg")}, nil},
		{gh, v, []cut.Log{log(1, "hg", "g")}, nil},
		{gh, v, []cut.Log{log(1, "g", "kg")}, nil},
		{gh, v, []cut.Log{log(1, "")}, nil},
		// Another Old: another Epoch, or another Coord.
		{gh, id(2, 2), nil, nil},
		{gh, id(1, 1), nil, nil},
		{gh, id(2, 1), nil, nil},
		{gh, api.Id{}, nil, nil},
		// The first log of the sender counts, be it of nothing, too short, or another one.
		{gh, v, []cut.Log{log(1, "g"), log(1, "g", "hg")}, []cut.Log{log(1, "hg")}},
		{gh, v, []cut.Log{log(1, "g", "hg"), log(1, "g")}, nil},
		{gh, v, []cut.Log{log(1), log(1, "g")}, []cut.Log{log(1, "g", "hg")}},
		{gh, v, []cut.Log{log(1, "hg"), log(1, "g")}, nil},
		{gh, v, []cut.Log{log(2, "hg"), log(1, "g"), log(1, "hg")}, []cut.Log{log(1, "hg")}},
		// A part of nothing is never more.
		{[]cut.Part{part(1, 2, 1), part(1, 2, 2, "g")}, v, nil, []cut.Log{log(2, "g")}},
		{[]cut.Part{part(1, 2, 1)}, v, []cut.Log{log(1)}, nil},
		{[]cut.Part{part(1, 2, 1)}, v, []cut.Log{log(1, "g")}, nil},
		// In the order of the parts, each of them, of whichever sender.
		{[]cut.Part{part(1, 2, 3, "g"), part(1, 3, 2, "g"), part(1, 2, 1, "g", "hg"), part(1, 2, 3, "kg"), part(1, 2, 3, "g")}, v, []cut.Log{log(1, "g")}, []cut.Log{log(3, "g"), log(1, "hg"), log(3, "kg"), log(3, "g")}},
		{[]cut.Part{part(-1, 9, 0, "", "q")}, id(-1, 9), []cut.Log{log(0, "")}, []cut.Log{log(0, "q")}},
		{[]cut.Part{part(1, 2, 1, "g"), part(1, 2, 2, "g"), part(1, 2, 3, "g")}, v, []cut.Log{log(2, "g"), log(1, "hg")}, []cut.Log{log(3, "g")}},
	} {
		if got := cut.Missing(c.l, c.old, c.logs); !sameLogs(got, c.want) {
			t.Errorf("%d: %s, want %s", i, show(got), show(c.want))
		}
		checkMissing(t, c.l, c.old, c.logs)
	}
}

// C2: an id is the same just if both of its numbers are.
func TestMissingOld(t *testing.T) {
	for _, n := range edges() {
		for _, m := range edges() {
			l := []cut.Part{part(n, m, n, "g"), part(m, n, m, "hg"), part(n, n, 1, "kg")}
			checkMissing(t, l, id(n, m), nil)
			checkMissing(t, l, id(n, m), []cut.Log{log(m, "hg"), log(n, "g")})
		}
	}
}

// C2: parts and logs by chance that is the same each time, of few senders and few views.
func TestMissingByChance(t *testing.T) {
	r := rand.New(rand.NewSource(12))
	for range 20000 {
		var l []cut.Part
		var logs []cut.Log
		for range r.Intn(6) {
			l = append(l, part(r.Intn(2), r.Intn(2), r.Intn(4), some(r, 4)...))
		}
		for range r.Intn(6) {
			logs = append(logs, log(r.Intn(4), some(r, 3)...))
		}
		checkMissing(t, l, id(r.Intn(2), r.Intn(2)), logs)
	}
}
