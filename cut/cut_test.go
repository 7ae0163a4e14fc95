package cut_test

import (
	"math/rand"
	"slices"
	"testing"

	"gemot/cut"
)

// C2: the chapter's example.
func TestExample(t *testing.T) {
	v := id(1, 1)
	first := []cut.Log{log(1, "a")}
	all := cut.Cut([]cut.Report{{From: 1, Old: v, Logs: first}, {From: 2, Old: v, Logs: []cut.Log{log(1, "a", "b")}}, {From: 3, Old: v}})
	if !sameParts(all, []cut.Part{part(1, 1, 1, "a", "b")}) {
		t.Error(show(all))
	}
	if got := cut.Missing(all, v, first); !sameLogs(got, []cut.Log{log(1, "b")}) {
		t.Error(show(got))
	}
}

// C2: the longest row, of those as long the first one, of each Old and Sender.
func TestCut(t *testing.T) {
	v, w := id(1, 2), id(2, 1)
	for i, c := range []struct {
		l    []cut.Report
		want []cut.Part
	}{
		{nil, nil},
		{[]cut.Report{}, nil},
		{[]cut.Report{{}, report(v), report(w, []cut.Log{}...)}, nil},
		{[]cut.Report{report(v, log(1), log(2, row{}...))}, nil},
		{[]cut.Report{report(v, log(1, "g"))}, []cut.Part{part(1, 2, 1, "g")}},
		// Longer ones, ahead and behind.
		{[]cut.Report{report(v, log(1, "g")), report(v, log(1, "g", "g")), report(v, log(1, "g"))}, []cut.Part{part(1, 2, 1, "g", "g")}},
		{[]cut.Report{report(v, log(1, "hg")), report(v, log(1, "g", "kg"))}, []cut.Part{part(1, 2, 1, "g", "kg")}},
		// Of as long ones the first one, be it less or greater by bytes.
		{[]cut.Report{report(v, log(1, "g")), report(v, log(1, "hg"))}, []cut.Part{part(1, 2, 1, "g")}},
		{[]cut.Report{report(v, log(1, "hg")), report(v, log(1, "g"))}, []cut.Part{part(1, 2, 1, "hg")}},
		{[]cut.Report{report(v, log(1, "kg")), report(v, log(1, "g", "hg")), report(v, log(1, "hg", "g"))}, []cut.Part{part(1, 2, 1, "g", "hg")}},
		// How many items there are counts, not how many bytes.
		{[]cut.Report{report(v, log(1, hashes(300))), report(v, log(1, "g", "g"))}, []cut.Part{part(1, 2, 1, "g", "g")}},
		// A report with several logs of one sender.
		{[]cut.Report{report(v, log(1, "g"), log(1, "hg", "g"), log(1, "kg"))}, []cut.Part{part(1, 2, 1, "hg", "g")}},
		{[]cut.Report{report(v, log(1, "g"), log(1, "hg"))}, []cut.Part{part(1, 2, 1, "g")}},
		{[]cut.Report{report(v, log(1), log(2, "hg"), log(1, "g"))}, []cut.Part{part(1, 2, 1, "g"), part(1, 2, 2, "hg")}},
		// Of one sender in several views, of several senders in one: by Epoch, Coord, Sender.
		{[]cut.Report{report(w, log(1, "g")), report(v, log(1, "hg", "g"))}, []cut.Part{part(1, 2, 1, "hg", "g"), part(2, 1, 1, "g")}},
		{[]cut.Report{report(v, log(3, "g"), log(1, "hg")), report(v, log(2, "kg"))}, []cut.Part{part(1, 2, 1, "hg"), part(1, 2, 2, "kg"), part(1, 2, 3, "g")}},
		{[]cut.Report{report(id(1, 3), log(1, "g")), report(id(1, 2), log(2, "g")), report(id(0, 8), log(8, "g"))}, []cut.Part{part(0, 8, 8, "g"), part(1, 2, 2, "g"), part(1, 3, 1, "g")}},
		// Whoever reports, and however often.
		{[]cut.Report{{From: 9, Old: v, Logs: []cut.Log{log(1, "g")}}, {From: -1, Old: v, Logs: []cut.Log{log(2, "g")}}, {From: 9, Old: v, Logs: []cut.Log{log(1, "hg", "g")}}}, []cut.Part{part(1, 2, 1, "hg", "g"), part(1, 2, 2, "g")}},
		// What is no process, no id and no right term is a number, and a text, like any other one.
		{[]cut.Report{report(id(-1, 9), log(0, "q", ""), log(-1, ""))}, []cut.Part{part(-1, 9, -1, ""), part(-1, 9, 0, "q", "")}},
	} {
		if got := cut.Cut(c.l); !sameParts(got, c.want) {
			t.Errorf("%d: %s, want %s", i, show(got), show(c.want))
		}
		checkCut(t, c.l)
	}
}

// C2: by Old, then by Sender, whatever numbers they are, and in whichever order they come.
func TestCutOrder(t *testing.T) {
	var all []cut.Report
	for _, n := range edges() {
		for _, m := range edges() {
			all = append(all, report(id(n, m), log(1, "g")), report(id(1, n), log(m, "g")), report(id(n, 1), log(m, "hg")))
		}
	}
	first := checkCut(t, all)
	for i, p := range first {
		if i > 0 && !above(numbersOf(first[i-1]), numbersOf(p)) {
			t.Fatal(first[i-1], p)
		}
	}
	slices.Reverse(all)
	if len(first) < 1000 || len(checkCut(t, all)) != len(first) {
		t.Error(len(first))
	}
}

// C2: all reports of a few logs, in each order.
func TestCutOfFew(t *testing.T) {
	logs := []cut.Log{log(1), log(1, "g"), log(1, "hg"), log(1, "g", "hg"), log(2, "g"), log(2, "hg", "g", "g")}
	var few []cut.Report
	lists(logs, 2, func(l []cut.Log) { few = append(few, report(id(1, 1), l...)) })
	few = append(few, report(id(1, 2), logs...), report(id(0, 2), logs[1]))
	lists(few, 2, func(l []cut.Report) { checkCut(t, l) })
	r := rand.New(rand.NewSource(11))
	for range 3000 {
		var l []cut.Report
		for range r.Intn(9) {
			l = append(l, few[r.Intn(len(few))])
		}
		checkCut(t, l)
	}
}
