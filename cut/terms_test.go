package cut_test

import (
	"math"
	"math/rand"
	"slices"
	"testing"

	"gemot/api"
	"gemot/cut"
	"gemot/term"
)

// C1: all of it, or nothing, too; terms are held against one another by bytes, right or not.
func TestBegins(t *testing.T) {
	for i, c := range []struct {
		a, b row
		want bool
	}{
		{nil, nil, true},
		{row{}, nil, true},
		{nil, row{}, true},
		{nil, row{"g"}, true},
		{row{"g"}, nil, false},
		{row{"g"}, row{"g"}, true},
		{row{"g"}, row{"g", "hg"}, true},
		{row{"g", "hg"}, row{"g"}, false},
		{row{"hg"}, row{"g", "hg"}, false},
		{row{"g", "hg"}, row{"g", "kg"}, false},
		{row{"g", "hg"}, row{"g", "hg", "kg"}, true},
		{row{"g"}, row{"gg"}, false},
		{row{""}, row{}, false},
		{row{""}, row{"", "q"}, true},
		{row{"g", ""}, row{"g", "q"}, false},
	} {
		if cut.Begins(c.a, c.b) != c.want {
			t.Error(i, c)
		}
	}
	lists(row{"g", "hg", ""}, 4, func(a row) {
		lists(row{"g", "hg", ""}, 4, func(b row) {
			if cut.Begins(a, b) != plainBegins(a, b) {
				t.Fatal(show(a), show(b))
			}
		})
	})
}

// C1: the bytes of logs and of parts, written out.
func TestSpelled(t *testing.T) {
	const six = "\x00\x00\x00\x00\x00\x00"
	const zeros = six + "\x00"
	logs := []cut.Log{log(2, "g", "hg"), log(8, "kg")}
	want := row{"pu" + zeros + "\x02pgphgu" + zeros + "\x00", "pu" + zeros + "\x08pkgu" + zeros + "\x00"}
	if got, e := cut.Put(logs); !slices.Equal(got, want) || e != api.OK {
		t.Error(show(got), int(e))
	}
	if got, e := cut.Take(want); !sameLogs(got, logs) || e != api.OK {
		t.Error(show(got), int(e))
	}
	told := []cut.Part{part(1, 3, 2, "g"), part(258, 0, 8, "hg", "g")}
	want = row{"pu" + zeros + "\x01pu" + zeros + "\x03pu" + zeros + "\x02pgu" + zeros + "\x00", "pu" + six + "\x01\x02pu" + zeros + "\x00pu" + zeros + "\x08phgpgu" + zeros + "\x00"}
	if got, e := cut.Parts(told); !slices.Equal(got, want) || e != api.OK {
		t.Error(show(got), int(e))
	}
	if got, e := cut.Unpart(want); !sameParts(got, told) || e != api.OK {
		t.Error(show(got), int(e))
	}
}

// C1: of nothing, nothing is told, without an error.
func TestNothing(t *testing.T) {
	for _, l := range [][]cut.Log{nil, {}} {
		if got, e := cut.Put(l); len(got) != 0 || e != api.OK {
			t.Error(got, e)
		}
	}
	for _, l := range [][]cut.Part{nil, {}} {
		if got, e := cut.Parts(l); len(got) != 0 || e != api.OK {
			t.Error(got, e)
		}
	}
	for _, l := range []row{nil, {}} {
		if got, e := cut.Take(l); len(got) != 0 || e != api.OK {
			t.Error(got, e)
		}
		if got, e := cut.Unpart(l); len(got) != 0 || e != api.OK {
			t.Error(got, e)
		}
	}
}

// C1: senders are 1 to 8, and rise: each set of them, in order and turned, and each few edges.
func TestSenders(t *testing.T) {
	for set := range 256 {
		var l []cut.Log
		var p []cut.Part
		for sender := 1; sender <= 8; sender++ {
			if set>>(sender-1)&1 == 1 {
				l, p = append(l, log(sender, "g")), append(p, part(3, 2, sender, "g"))
			}
		}
		if got, e := cut.Put(l); len(got) != len(l) || e != api.OK {
			t.Fatal(l, e)
		}
		if got, e := cut.Parts(p); len(got) != len(p) || e != api.OK {
			t.Fatal(p, e)
		}
		checkPut(t, l)
		checkParts(t, p)
		slices.Reverse(l)
		slices.Reverse(p)
		checkPut(t, l)
		checkParts(t, p)
	}
	lists(edges(), 3, func(senders []int) {
		var l []cut.Log
		var p []cut.Part
		for _, sender := range senders {
			l, p = append(l, log(sender, "g")), append(p, part(3, 2, sender, "g"))
		}
		checkPut(t, l)
		checkParts(t, p)
	})
}

// C1: an Epoch of 0 to 2^31 - 1, a Coord of 0 to 8, and none beside, at whichever place.
func TestOldIds(t *testing.T) {
	for _, epoch := range edges() {
		for _, coord := range edges() {
			good := epoch >= 0 && epoch <= math.MaxInt32 && coord >= 0 && coord <= 8
			want := api.ErrArg
			if good {
				want = api.OK
			}
			if got, e := cut.Parts([]cut.Part{part(epoch, coord, 1, "g")}); e != want || (len(got) == 1) != good {
				t.Fatal(epoch, coord, got, e)
			}
			checkParts(t, []cut.Part{part(epoch, coord, 1, "g")})
			checkParts(t, []cut.Part{part(1, 1, 1, "g"), part(epoch, coord, 1, "g")})
			checkParts(t, []cut.Part{part(epoch, coord, 8, "g"), part(1<<31-1, 8, 8, "g")})
			checkTerms(t, row{spell(row{"g"}, epoch, coord, 1)})
			checkTerms(t, row{spell(row{"g"}, 1, 1, 1), spell(row{"g"}, epoch, coord, 1)})
		}
	}
}

// C1: parts rise by Epoch, then by Coord, then by Sender; alike ones do not.
func TestPartsRise(t *testing.T) {
	var all [][3]int
	for _, epoch := range []int{0, 1, 9, 256, 1<<31 - 1} {
		for _, coord := range []int{0, 1, 2, 8} {
			for _, sender := range []int{1, 2, 8} {
				all = append(all, [3]int{epoch, coord, sender})
			}
		}
	}
	for i, a := range all {
		for j, b := range all {
			l := []cut.Part{part(a[0], a[1], a[2], "g"), part(b[0], b[1], b[2], "g")}
			want := api.ErrArg
			if i < j {
				want = api.OK
			}
			if _, e := cut.Parts(l); e != want {
				t.Fatal(a, b, e)
			}
			checkParts(t, l)
			checkTerms(t, row{spell(row{"g"}, a[:]...), spell(row{"g"}, b[:]...)})
		}
	}
	few := []cut.Part{part(0, 0, 8, "g"), part(0, 1, 1, "g"), part(1, 0, 1, "g"), part(1, 0, 2, "hg"), part(1, 2, 1, "g")}
	lists(few, 4, func(l []cut.Part) { checkParts(t, l) })
}

// around is a log and a part with these items, alone, ahead of others, between and behind them.
func around(items row) ([][]cut.Log, [][]cut.Part) {
	return [][]cut.Log{{log(4, items...)}, {log(4, items...), log(5, "g")}, {log(3, "g"), log(4, items...), log(5, "g")}, {log(3, "g"), log(4, items...)}},
		[][]cut.Part{{part(4, 4, 4, items...)}, {part(4, 4, 4, items...), part(4, 4, 5, "g")}, {part(3, 8, 8, "g"), part(4, 4, 4, items...), part(4, 5, 1, "g")}, {part(4, 4, 3, "g"), part(4, 4, 4, items...)}}
}

// checkItems wants these errors of a log, and of a part, with such items.
func checkItems(t *testing.T, items row, ofLogs, ofParts api.Errno) {
	t.Helper()
	logs, told := around(items)
	for i := range logs {
		if got, e := cut.Put(logs[i]); e != ofLogs || e != api.OK && len(got) != 0 {
			t.Fatalf("%d: %d of %s: error %d", i, len(items), show(items), e)
		}
		checkPut(t, logs[i])
		if got, e := cut.Parts(told[i]); e != ofParts || e != api.OK && len(got) != 0 {
			t.Fatalf("%d: %d of %s: error %d", i, len(items), show(items), e)
		}
		checkParts(t, told[i])
	}
	checkTerms(t, row{spell(items, 4)})
	checkTerms(t, row{spell(items, 4, 4, 4)})
}

// C1: ErrArg where there are no items, or a term is not right: the error of a row is never told as another one.
func TestItems(t *testing.T) {
	checkItems(t, nil, api.ErrArg, api.ErrArg)
	checkItems(t, row{}, api.ErrArg, api.ErrArg)
	for _, w := range wrongs() {
		checkItems(t, row{w}, api.ErrArg, api.ErrArg)
		checkItems(t, row{"g", w}, api.ErrArg, api.ErrArg)
		checkItems(t, row{w, "g"}, api.ErrArg, api.ErrArg)
	}
	for _, good := range (row{"g", u(0), u(4), u(math.MaxUint64), term.Name(4), "t\x00\x00", "i\x08", "hg", "pgg", spell(row{"g"}, 1), spell(nil)}) {
		checkItems(t, row{good}, api.OK, api.OK)
		checkItems(t, row{good, good}, api.OK, api.OK)
	}
}

// C1: a row has at most 150 terms: 149 items behind a sender, 147 behind an id and a sender.
func TestMany(t *testing.T) {
	for _, c := range []struct {
		many            int
		ofLogs, ofParts api.Errno
	}{{1, api.OK, api.OK}, {146, api.OK, api.OK}, {147, api.OK, api.OK}, {148, api.OK, api.ErrArg}, {149, api.OK, api.ErrArg}, {150, api.ErrArg, api.ErrArg}, {151, api.ErrArg, api.ErrArg}, {1 << 20, api.ErrArg, api.ErrArg}} {
		checkItems(t, slices.Repeat(row{"g"}, c.many), c.ofLogs, c.ofParts)
	}
}

// C1: a row has at most 20000 bytes, and a depth of at most 400.
func TestGreat(t *testing.T) {
	const logBytes, partBytes = 10 + 1 + 9, 3*10 + 1 + 9
	for _, c := range []struct {
		item            term.Term
		ofLogs, ofParts api.Errno
	}{
		{wide(20000 - partBytes), api.OK, api.OK},
		{wide(20000 - partBytes + 1), api.OK, api.ErrArg},
		{wide(20000 - logBytes), api.OK, api.ErrArg},
		{wide(20000 - logBytes + 1), api.ErrArg, api.ErrArg},
		{wide(20000), api.ErrArg, api.ErrArg},
		{hashes(400 - 4), api.OK, api.OK},
		{hashes(400 - 3), api.OK, api.ErrArg},
		{hashes(400 - 2), api.OK, api.ErrArg},
		{hashes(400 - 1), api.ErrArg, api.ErrArg},
		{hashes(400), api.ErrArg, api.ErrArg},
	} {
		checkItems(t, row{c.item}, c.ofLogs, c.ofParts)
	}
}

// C1: what is no row with numbers ahead of items is no log, and no part, wherever it stands.
func TestWrongRows(t *testing.T) {
	neither := append(wrongs(), "g", "hg", u(0), u(1), "pgg", "p"+u(1)+u(0), "p"+u(1)+"g", "p"+u(1)+"pg"+u(1), "p"+u(1)+"pg"+term.Name(0), "pg"+u(0), "pgpg"+u(0),
		spell(nil), spell(nil, 1), spell(row{"g"}), spell(row{"g"}, 0), spell(row{"g"}, 9), spell(row{"g"}, 9, 1), spell(nil, 9, 1, 1), spell(row{"g"}, 1)+"g", "g"+spell(row{"g"}, 1), "h"+spell(row{"g"}, 1), "p"+spell(row{"g"}, 1)+u(0),
		spell(row{"g"}, 1)[:12], spell(slices.Repeat(row{"g"}, 150), 1), spell(slices.Repeat(row{"g"}, 148), 1, 1, 1), spell(row{"q"}, 1), spell(row{"q"}, 1, 1, 1), "p"+spell(row{"g"}, 1, 1, 1)+u(0))
	for _, w := range neither {
		checkRows(t, w, api.ErrForm, api.ErrForm)
	}
	for _, w := range (row{spell(nil, 1, 1), spell(nil, 1, 1, 1), spell(row{"g"}, 1, 1), spell(row{"g", u(1), u(1), "g"}, 1), spell(slices.Repeat(row{"g"}, 149), 1)}) {
		checkRows(t, w, api.OK, api.ErrForm)
	}
	for _, w := range (row{spell(row{"g"}, 0, 0, 1), spell(row{"g"}, 9, 8, 8), spell(row{u(0)}, 1<<31-1, 0, 1)}) {
		checkRows(t, w, api.ErrForm, api.OK)
	}
	checkRows(t, spell(row{"g"}, 1, 1, 1), api.OK, api.OK)
}

// checkRows wants these errors of a term as a log, and as a part, alone, ahead of a right one and behind one.
func checkRows(t *testing.T, w term.Term, ofTake, ofUnpart api.Errno) {
	t.Helper()
	if got, e := cut.Take(row{w}); e != ofTake || (len(got) == 1) != (e == api.OK) {
		t.Fatalf("Take of %s: %s %d", show(w), show(got), e)
	}
	if got, e := cut.Unpart(row{w}); e != ofUnpart || (len(got) == 1) != (e == api.OK) {
		t.Fatalf("Unpart of %s: %s %d", show(w), show(got), e)
	}
	checkTerms(t, row{w})
	checkTerms(t, row{w, spell(row{"g"}, 8)})
	checkTerms(t, row{spell(row{"g"}, 1), w})
	checkTerms(t, row{w, spell(row{"g"}, 1<<31-1, 8, 8)})
	checkTerms(t, row{spell(row{"g"}, 0, 0, 1), w})
}

// C1: numbers are numbers, not what is alike, and go as far as they may: none is read as another one that it goes round to.
func TestNumbers(t *testing.T) {
	for at := range 3 {
		for _, n := range []uint64{0, 1, 2, 8, 9, 255, 256, 257, 1<<31 - 1, 1 << 31, 1 << 32, 1<<32 + 1, 1<<63 - 1, 1 << 63, 1<<63 + 1, math.MaxUint64} {
			numbers := row{u(1), u(1), u(1)}
			for _, w := range (row{u(n), term.Name(n), "h" + u(n), "p" + u(n) + u(0), "t\x00\x01" + term.Term([]byte{byte(n)}), "e\x01" + u(n)}) {
				numbers[at] = w
				all := "p" + numbers[0] + "p" + numbers[1] + "p" + numbers[2] + "pg" + u(0)
				checkTerms(t, row{all})
				checkTerms(t, row{"p" + w + "pg" + u(0)})
				most := []uint64{1<<31 - 1, 8, 8}[at]
				good := w == u(n) && n <= most && (at < 2 || n > 0)
				if got, e := cut.Unpart(row{all}); (e == api.OK) != good || (len(got) == 1) != good {
					t.Fatalf("%d %s: %s %d", at, show(w), show(got), e)
				}
				if got, e := cut.Take(row{"p" + w + "pg" + u(0)}); (e == api.OK) != (w == u(n) && n >= 1 && n <= 8) || (e == api.OK) != (len(got) == 1) {
					t.Fatalf("%s: %s %d", show(w), show(got), e)
				}
			}
		}
	}
}

// C1: lists of some rows, right and wrong, in each order.
func TestTakeLists(t *testing.T) {
	few := row{spell(row{"g"}, 1), spell(row{"g", "hg"}, 2), spell(row{u(3), u(4), "g"}, 8), spell(row{u(2), u(5)}, 2), spell(row{"g"}, 0, 0, 1), spell(row{u(1)}, 1, 2, 3), spell(row{u(1), "g"}, 3, 0, 1), spell(row{"g"}, 9), u(0), "q"}
	lists(few, 4, func(l row) { checkTerms(t, l) })
}

// C1: rows by chance that is the same each time, and such with bytes that are others.
func TestTermsByChance(t *testing.T) {
	r := rand.New(rand.NewSource(11))
	for range 4000 {
		var logs []cut.Log
		var told []cut.Part
		for sender := range 10 {
			if r.Intn(3) == 0 {
				logs = append(logs, log(sender, some(r, 4)...))
			}
			told = append(told, part(r.Intn(3)+sender/4, r.Intn(9), 1+r.Intn(8), some(r, 4)...))
		}
		told = told[:r.Intn(4)]
		checkPut(t, logs)
		checkParts(t, told)
		right := row{}
		for _, g := range logs {
			right = append(right, spell(g.Items, g.Sender))
		}
		checkTerms(t, right)
		if len(right) > 0 {
			b := []byte(right[r.Intn(len(right))])
			b[r.Intn(len(b))] = byte(r.Intn(256))
			checkTerms(t, append(right, term.Term(b)))
			checkTerms(t, row{term.Term(b)})
		}
	}
}
