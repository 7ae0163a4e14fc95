package cut_test

import (
	"slices"
	"testing"

	"gemot/api"
	"gemot/cut"
)

// P1 of the whole: lists of any length, where each of one is of another one in the other list, or none is.
func TestLong(t *testing.T) {
	const many = 1 << 18
	var reports []cut.Report
	var told []cut.Part
	var logs []cut.Log
	for i := range many {
		reports = append(reports, report(id(i%1000, i), log(many-i, "g"), log(i)))
		told = append(told, part(1, 1, i, "g", "hg"))
		logs = append(logs, log(many-1-i, "g"))
	}
	if got := cut.Cut(reports); len(got) != many || got[0].Old != id(0, 0) || got[many-1].Old.Epoch != 999 {
		t.Error(len(got))
	}
	got := cut.Missing(told, id(1, 1), logs)
	if len(got) != many || got[7].Sender != 7 || !slices.Equal(got[7].Items, row{"hg"}) {
		t.Error(len(got))
	}
	long := slices.Repeat(row{"g"}, many)
	if p := cut.Cut([]cut.Report{report(id(1, 1), log(1, long...), log(1, long[1:]...))}); len(p) != 1 || len(p[0].Items) != many {
		t.Error(len(p))
	}
	if !cut.Begins(long[1:], long) || cut.Begins(long, long[1:]) {
		t.Error("begins")
	}
	checkWrongLists(t, logs, told[1:], long)
	var rising []cut.Part
	for i := range 20000 {
		rising = append(rising, part(i, 8, 8, "g"))
	}
	checkParts(t, rising)
}

func checkWrongLists(t *testing.T, logs []cut.Log, told []cut.Part, terms row) {
	t.Helper()
	if got, e := cut.Put(logs); len(got) != 0 || e != api.ErrArg {
		t.Error(len(got), e)
	}
	if got, e := cut.Parts(told); len(got) != 0 || e != api.ErrArg {
		t.Error(len(got), e)
	}
	if got, e := cut.Take(terms); len(got) != 0 || e != api.ErrForm {
		t.Error(len(got), e)
	}
	if got, e := cut.Unpart(terms); len(got) != 0 || e != api.ErrForm {
		t.Error(len(got), e)
	}
}

// used is all that was answered of what is handed in.
type used struct {
	put, told        row
	logs, missing    []cut.Log
	parts, all       []cut.Part
	begins           bool
	putErr, partsErr api.Errno
}

func use(reports []cut.Report, told []cut.Part) used {
	var u used
	u.put, u.putErr = cut.Put(reports[0].Logs)
	u.logs, _ = cut.Take(u.put)
	u.told, u.partsErr = cut.Parts(told)
	u.parts, _ = cut.Unpart(u.told)
	u.all = cut.Cut(reports)
	u.missing = cut.Missing(told, reports[0].Old, reports[0].Logs)
	u.begins = cut.Begins(reports[0].Logs[0].Items, told[0].Items)
	return u
}

// spoil writes into all that was answered, and behind it.
func spoil(u used) {
	items := []row{u.put, u.told}
	for _, g := range append(slices.Clone(u.logs), u.missing...) {
		items = append(items, g.Items)
	}
	for _, p := range append(slices.Clone(u.parts), u.all...) {
		items = append(items, p.Items)
	}
	for _, l := range items {
		whole := l[:cap(l)]
		for i := range whole {
			whole[i] = "spoiled"
		}
	}
	for _, l := range [][]cut.Log{u.logs[:cap(u.logs)], u.missing[:cap(u.missing)]} {
		clear(l)
	}
	for _, l := range [][]cut.Part{u.parts[:cap(u.parts)], u.all[:cap(u.all)]} {
		clear(l)
	}
}

func handedIn() ([]cut.Report, []cut.Part) {
	shared := row{"g", "hg", "kg", "behind"}
	reports := []cut.Report{report(id(2, 1), log(1, shared[:1]...), log(2, shared[:3]...)), report(id(1, 1), log(2, shared[:3]...), log(1, "g")), report(id(2, 1), log(1, shared[:3]...), log(3, "g"), log(3, shared[:2]...)), report(id(7, 7), log(7, "behind"))}
	told := []cut.Part{part(2, 1, 1, shared[:3]...), part(2, 1, 2, shared[:3]...), part(2, 1, 3, shared[:3]...), part(9, 9, 9, "behind")}
	return reports[:3], told[:3]
}

// P3 and P4 of the whole: what is handed in stays as it was, with what lies behind it, however an answer is written into; answers share no memory with it, and the same is answered the same.
func TestAnsweredAnew(t *testing.T) {
	reports, told := handedIn()
	wasReports, wasTold := deep(reports[:4]), deep(told[:4])
	first := use(reports, told)
	was := deepUsed(first)
	if was.putErr != api.OK || was.partsErr != api.OK || !was.begins || len(was.missing) != 2 || len(was.all) != 5 {
		t.Fatal(show(was))
	}
	second := use(reports, told)
	spoil(second)
	if !sameUsed(first, was) || !sameReports(reports[:4], wasReports) || !sameParts(told[:4], wasTold) {
		t.Fatal(show(first), show(reports), show(told))
	}
	if third := use(reports, told); !sameUsed(third, was) {
		t.Fatal(show(third))
	}
	for _, r := range reports {
		for _, g := range r.Logs {
			clear(g.Items)
		}
		clear(r.Logs)
	}
	for _, p := range told {
		clear(p.Items)
	}
	if !sameUsed(first, was) {
		t.Fatal(show(first))
	}
}

// P3 of the whole: no two lists of one answer share memory, though one and the same is handed in for both.
func TestAnswersShareNothing(t *testing.T) {
	reports, told := handedIn()
	all := cut.Cut(reports)
	was := deep(all)
	for i := range all {
		for j := range all[i].Items[:cap(all[i].Items)] {
			all[i].Items[:cap(all[i].Items)][j] = "spoiled"
		}
		if !sameParts(all[i+1:], was[i+1:]) {
			t.Fatal(show(all))
		}
	}
	missing := cut.Missing(told, id(2, 1), nil)
	wasMissing := deep(missing)
	for i := range missing {
		clear(missing[i].Items[:cap(missing[i].Items)])
		if !sameLogs(missing[i+1:], wasMissing[i+1:]) {
			t.Fatal(show(missing))
		}
	}
	same := row{"g", "hg"}
	terms, _ := cut.Put([]cut.Log{log(1, same...), log(2, same...)})
	logs, _ := cut.Take(terms)
	clear(logs[0].Items[:cap(logs[0].Items)])
	if !slices.Equal(logs[1].Items, same) || terms[0] != spell(row{"g", "hg"}, 1) {
		t.Fatal(show(logs))
	}
}

func deepUsed(u used) used {
	u.put, u.told, u.logs, u.missing, u.parts, u.all = deep(u.put), deep(u.told), deep(u.logs), deep(u.missing), deep(u.parts), deep(u.all)
	return u
}

func sameUsed(a, b used) bool {
	return slices.Equal(a.put, b.put) && slices.Equal(a.told, b.told) && sameLogs(a.logs, b.logs) && sameLogs(a.missing, b.missing) && sameParts(a.parts, b.parts) && sameParts(a.all, b.all) && a.begins == b.begins && a.putErr == b.putErr && a.partsErr == b.partsErr
}

func sameReports(a, b []cut.Report) bool {
	return slices.EqualFunc(a, b, func(x, y cut.Report) bool { return x.From == y.From && x.Old == y.Old && sameLogs(x.Logs, y.Logs) })
}
