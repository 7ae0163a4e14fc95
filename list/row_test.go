package list_test

import (
	"math/rand"
	"slices"
	"strings"
	"testing"

	"gemot/api"
	"gemot/list"
	"gemot/term"
)

// L1: a row of nothing is the number 0; else its first term stands in a pair with the row of all others.
func TestPut(t *testing.T) {
	x := term.Name(7)
	for i, c := range []struct {
		l    row
		want term.Term
	}{
		{nil, u(0)},
		{row{}, u(0)},
		{row{"g"}, "pg" + u(0)},
		{row{"g", "hg"}, "pgphg" + u(0)}, // the chapter's example
		{row{"hg", "g"}, "phgpg" + u(0)},
		{row{"g", "g", "g"}, "pgpgpg" + u(0)},
		{row{u(0)}, "p" + u(0) + u(0)},
		{row{u(0), u(0)}, "p" + u(0) + "p" + u(0) + u(0)},
		{row{"pgg", x}, "ppggp" + x + u(0)},
		{row{"pg" + u(0)}, "ppg" + u(0) + u(0)}, // a row in a row
		{row{x, u(0), "t\x00\x01p"}, "p" + x + "p" + u(0) + "pt\x00\x01p" + u(0)},
	} {
		got, e := list.Put(c.l)
		if got != c.want || e != api.OK || !term.Right(got) {
			t.Errorf("%d: %s %d, want %s", i, show(got), e, show(c.want))
		}
		if back, e := list.Take(c.want); !slices.Equal(back, c.l) || e != api.OK {
			t.Errorf("%d: %s is taken as %s, error %d", i, show(c.want), show(back...), e)
		}
	}
}

// L1: ErrArg, if a term is not right, wherever it stands, and whatever else is wrong.
func TestPutWrong(t *testing.T) {
	long, deep := wide(20000), hashes(400)
	for _, w := range wrongs() {
		for i, l := range []row{{w}, {w, "g"}, {"g", w}, {"g", w, u(0)}, {long, long, w}, {deep, w}, {w, long, deep}, append(slices.Repeat(row{"g"}, 149), w), append(slices.Repeat(row{"g"}, 150), w)} {
			if got, e := list.Put(l); got != "" || e != api.ErrArg {
				t.Errorf("%d, with %s: %s %d", i, show(w), show(got), e)
			}
		}
	}
}

// L1: 150 terms at most: more are told ahead of what is too long or too deep.
func TestPutItems(t *testing.T) {
	if list.MaxItems != 150 {
		t.Error(list.MaxItems)
	}
	for _, n := range []int{1, 2, 149, 150} {
		want := term.Term(strings.Repeat("pg", n)) + u(0)
		if got, e := list.Put(slices.Repeat(row{"g"}, n)); got != want || e != api.OK {
			t.Errorf("%d: %s %d", n, show(got), e)
		}
	}
	for _, n := range []int{151, 152, 300, 406, 1 << 20} {
		for _, item := range (row{"g", wide(20000), hashes(400), "q"}) {
			if got, e := list.Put(slices.Repeat(row{item}, n)); got != "" || e != api.ErrArg {
				t.Errorf("%d of %s: %s %d", n, show(item), show(got), e)
			}
		}
	}
}

// L1: 20000 bytes at most, the pairs and the number 0 counted.
func TestPutLong(t *testing.T) {
	for i, c := range []struct {
		l    row
		want api.Errno
	}{
		{row{wide(20000 - 10)}, api.OK},
		{row{wide(20000 - 9)}, api.ErrLong},
		{row{wide(20000)}, api.ErrLong},
		{row{wide(10000), wide(9989)}, api.OK},
		{row{wide(10000), wide(9990)}, api.ErrLong},
		{append(row{wide(20000 - 9 - 149*2 - 1)}, slices.Repeat(row{"g"}, 149)...), api.OK},
		{append(row{wide(20000 - 9 - 149*2)}, slices.Repeat(row{"g"}, 149)...), api.ErrLong},
		{slices.Repeat(row{wide(20000)}, 150), api.ErrLong},
		{slices.Repeat(row{wide(103)}, 150), api.OK},
		{slices.Repeat(row{wide(133)}, 150), api.ErrLong},
	} {
		got, e := list.Put(c.l)
		if e != c.want || (got != "") != (e == api.OK) {
			t.Errorf("%d: %d bytes, error %d", i, len(got), e)
		}
		checkPut(t, c.l)
	}
}

// L1: a depth of 400 at most: a term stands in a pair of its own, and in those of all ahead of it.
func TestPutDeep(t *testing.T) {
	for i, c := range []struct {
		l    row
		want api.Errno
	}{
		{row{hashes(399)}, api.OK},
		{row{hashes(400)}, api.ErrDeep},
		{row{hashes(399), "g"}, api.OK},
		{row{"g", hashes(398)}, api.OK},
		{row{"g", hashes(399)}, api.ErrDeep},
		{row{hashes(399), hashes(398), hashes(397)}, api.OK},
		{row{hashes(399), hashes(398), hashes(398)}, api.ErrDeep},
		{row{hashes(399), hashes(399), hashes(397)}, api.ErrDeep},
		{append(slices.Repeat(row{"g"}, 149), hashes(250)), api.OK},
		{append(slices.Repeat(row{"g"}, 149), hashes(251)), api.ErrDeep},
	} {
		got, e := list.Put(c.l)
		if e != c.want || (got != "") != (e == api.OK) {
			t.Errorf("%d: depth %d, error %d", i, term.Depth(got), e)
		}
		checkPut(t, c.l)
	}
}

// L1: what is too long and too deep is too long, wherever it is deep.
func TestPutLongAndDeep(t *testing.T) {
	deep, long := hashes(400), wide(20001-10-401)
	for _, l := range []row{{deep, long, "g"}, {long, deep, "g"}, {long, "g", deep}, {"g", long, deep}, {wide(20000), deep}, {deep, wide(20000)}, slices.Repeat(row{deep}, 150)} {
		if got, e := list.Put(l); got != "" || e != api.ErrLong {
			t.Errorf("%s: %s %d", show(l...), show(got), e)
		}
	}
	for _, l := range []row{{deep, long}, {long, deep}} {
		if got, e := list.Put(l); got != "" || e != api.ErrLong {
			t.Errorf("one byte too long: %s %d", show(got), e)
		}
	}
	less := wide(20000 - 10 - 401)
	for _, l := range []row{{deep, less}, {less, deep}} {
		if got, e := list.Put(l); got != "" || e != api.ErrDeep {
			t.Errorf("not too long: %s %d", show(got), e)
		}
	}
}

// L1: ErrForm, if it is no row.
func TestTakeWrong(t *testing.T) {
	zero := u(0)
	l := append(wrongs(), "g", u(1), u(256), u(1<<56), term.Name(0), "t\x00\x00", "i\x01", "hg", "h"+zero, "pgg", "p"+zero+"g", "pgpg"+u(1), "pg"+term.Name(0), "pgh"+zero, "sgg"+zero, "xg"+zero, "ke\x01"+zero, "e\x02g"+zero, "ppg"+zero+"g", "pgpgpgg",
		term.Term(strings.Repeat("pg", 151))+zero, term.Term(strings.Repeat("pg", 399))+zero, term.Term(strings.Repeat("pg", 151))+"g", term.Term(strings.Repeat("pg", 400))+zero,
		"p"+hashes(400)+zero, "p"+wide(19991)+zero, zero[:8], zero+"g", "pg"+zero+zero, "pg"+zero[:8])
	for _, a := range l {
		if got, e := list.Take(a); len(got) != 0 || e != api.ErrForm {
			t.Errorf("%s: %s %d", show(a), show(got...), e)
		}
	}
}

// L1: rows that are as long, and as deep, as can be.
func TestTakeAtTheBounds(t *testing.T) {
	for _, l := range []row{{wide(19990)}, {hashes(399)}, {"g", hashes(398)}, slices.Repeat(row{"g"}, 150), append(slices.Repeat(row{"g"}, 149), hashes(250)), slices.Repeat(row{wide(103)}, 150)} {
		a, e := plainPut(l)
		if e != api.OK {
			t.Fatal(e)
		}
		checkTake(t, a)
		if got, e := list.Take(a); !slices.Equal(got, l) || e != api.OK {
			t.Errorf("%s: %s %d", show(a), show(got...), e)
		}
	}
}

// L1: all short texts of what rows are made of, right and wrong.
func TestTakeAll(t *testing.T) {
	texts(row{"p", "g", "h", u(0), u(1), "e\x01"}, 7, func(a term.Term) { checkTake(t, a) })
}

// L1: rows by chance; and these with a byte turned, lost or doubled.
func TestRowsByChance(t *testing.T) {
	r := rand.New(rand.NewSource(4))
	for range 1500 {
		l := someRow(r, 12, 4)
		checkPut(t, l)
		a, e := list.Put(l)
		if e != api.OK {
			continue
		}
		for range 5 {
			i := r.Intn(len(a))
			turned := term.Term([]byte{"ghpsxiu\x00\x01\xff"[r.Intn(10)]})
			checkTake(t, a[:i]+turned+a[i+1:])
			checkTake(t, a[:i]+a[i+1:])
			checkTake(t, a[:i]+a[i:i+1]+a[i:])
		}
	}
}

// L3: rows that are unlike are unlike terms, though their terms stand in a row alike.
func TestUnlikeRows(t *testing.T) {
	seen := map[term.Term]row{}
	var grow func(l row)
	grow = func(l row) {
		a, e := list.Put(l)
		if other, there := seen[a]; there || e != api.OK {
			t.Fatalf("%s and %s are both %s, error %d", show(l...), show(other...), show(a), e)
		}
		seen[a] = slices.Clone(l)
		if len(l) < 4 {
			for _, t := range (row{"g", u(0), "pgg", "pg" + u(0), "p" + u(0) + u(0), "pgpg" + u(0)}) {
				grow(append(slices.Clone(l), t))
			}
		}
	}
	grow(nil)
}

// The rules that hold everywhere (P3, P4): what is handed in stays, and is not kept; lists are new; the same is told each time.
func TestRowsAreNew(t *testing.T) {
	all := row{"g", "hg", "q", "q"}
	l := all[:2]
	a, _ := list.Put(l)
	if !slices.Equal(all, row{"g", "hg", "q", "q"}) {
		t.Error(show(all...))
	}
	l[0] = "hhg"
	if a != "pgphg"+u(0) {
		t.Error(show(a))
	}
	first, _ := list.Take(a)
	first[0], first[1] = "q", "q"
	_ = append(first, "q")
	if again, e := list.Take(a); !slices.Equal(again, row{"g", "hg"}) || e != api.OK {
		t.Errorf("%s %d", show(again...), e)
	}
}
