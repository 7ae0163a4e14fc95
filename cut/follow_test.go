package cut_test

import (
	"math/rand"
	"slices"
	"testing"

	"gemot/api"
	"gemot/cut"
)

// member is one of an old view, with its logs of it.
type member struct {
	old  api.Id
	logs []cut.Log
}

// with is logs, and what was missing behind them, by sender.
func with(logs, missing []cut.Log) map[int]row {
	all := map[int]row{}
	for _, g := range append(slices.Clone(logs), missing...) {
		if len(g.Items) > 0 {
			all[g.Sender] = append(slices.Clone(all[g.Sender]), g.Items...)
		}
	}
	return all
}

// beginnings are members of a few views: of each sender there each has a beginning of one row, or no log. With them, what the longest ones are, by view and sender.
func beginnings(r *rand.Rand) ([]member, map[api.Id]map[int]row) {
	var members []member
	longest := map[api.Id]map[int]row{}
	for v := range 1 + r.Intn(3) {
		old := id(r.Intn(3), v)
		longest[old] = map[int]row{}
		rows := make([]row, 9)
		for p := range rows {
			rows[p] = some(r, 5)
		}
		for range 1 + r.Intn(4) {
			m := member{old: old}
			for p := 1; p <= 8; p++ {
				mine := rows[p][:r.Intn(len(rows[p])+1)]
				if len(mine) > 0 {
					m.logs = append(m.logs, log(p, mine...))
				}
				if len(mine) > len(longest[old][p]) {
					longest[old][p] = mine
				}
			}
			members = append(members, m)
		}
	}
	r.Shuffle(len(members), func(i, j int) { members[i], members[j] = members[j], members[i] })
	return members, longest
}

// C3: with what was missing, all of a view have the same of each sender: what the longest one had. All is told as terms on its way.
func TestAllHaveTheSame(t *testing.T) {
	r := rand.New(rand.NewSource(13))
	for range 3000 {
		members, longest := beginnings(r)
		var reports []cut.Report
		for i, m := range members {
			told, e := cut.Put(m.logs)
			if e != api.OK {
				t.Fatal(m, e)
			}
			logs, e := cut.Take(told)
			if e != api.OK {
				t.Fatal(m, e)
			}
			reports = append(reports, cut.Report{From: i + 1, Old: m.old, Logs: logs})
		}
		told, e := cut.Parts(checkCut(t, reports))
		if e != api.OK {
			t.Fatal(reports, e)
		}
		all, e := cut.Unpart(told)
		if e != api.OK {
			t.Fatal(reports, e)
		}
		for _, m := range members {
			got, want := with(m.logs, cut.Missing(all, m.old, m.logs)), longest[m.old]
			for p := range 10 {
				if !slices.Equal(got[p], want[p]) {
					t.Fatalf("%s of %d: %s, want %s", show(m), p, show(got[p]), show(want[p]))
				}
			}
		}
	}
}

// C3: nothing lacks any more behind that.
func TestNothingLacksTwice(t *testing.T) {
	r := rand.New(rand.NewSource(14))
	for range 1000 {
		members, _ := beginnings(r)
		var reports []cut.Report
		for _, m := range members {
			reports = append(reports, report(m.old, m.logs...))
		}
		all := cut.Cut(reports)
		for _, m := range members {
			var full []cut.Log
			for p, items := range with(m.logs, cut.Missing(all, m.old, m.logs)) {
				full = append(full, log(p, items...))
			}
			if got := cut.Missing(all, m.old, full); len(got) != 0 {
				t.Fatal(show(got))
			}
		}
	}
}
