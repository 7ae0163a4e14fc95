package cut_test

import (
	"fmt"
	"math"
	"math/rand"
	"reflect"
	"slices"
	"strings"
	"testing"

	"gemot/api"
	"gemot/cut"
	"gemot/parts"
	"gemot/term"
)

type row = []term.Term

func u(n uint64) term.Term { return term.Number(n) }

// show is a value as Go spells it, or the beginning of that.
func show(v any) string {
	s := fmt.Sprintf("%#v", v)
	return s[:min(len(s), 600)]
}

func id(epoch, coord int) api.Id { return api.Id{Epoch: epoch, Coord: coord} }

func log(sender int, items ...term.Term) cut.Log { return cut.Log{Sender: sender, Items: items} }

func part(epoch, coord, sender int, items ...term.Term) cut.Part {
	return cut.Part{Old: id(epoch, coord), Sender: sender, Items: items}
}

func report(old api.Id, logs ...cut.Log) cut.Report { return cut.Report{Old: old, Logs: logs} }

// edges are numbers at the bounds of processes, epochs and ints, and some that a smaller int would hold as others.
func edges() []int {
	return []int{0, 1, 2, 7, 8, 9, -1, -8, 255, 256, 256 + 1, 1<<31 - 2, 1<<31 - 1, 1 << 31, 1<<32 - 1, 1 << 32, 1<<32 + 1, -1 << 31, -1 << 32, math.MaxInt, math.MinInt, math.MinInt + 1}
}

// hashes is g behind so many h: a term of that depth and as many bytes.
func hashes(depth int) term.Term { return term.Term(strings.Repeat("h", depth-1) + "g") }

// wide is a term of just that many bytes (at least 3) that is shallow: halves in pairs.
func wide(size int) term.Term {
	if size <= api.MaxText+3 {
		return term.Term("t\x00" + string(rune(size-3)) + strings.Repeat("w", size-3))
	}
	left := (size - 1) / 2
	return "p" + wide(left) + wide(size-1-left)
}

// wrongs are texts that are no right terms, whole.
func wrongs() row {
	return row{"", " ", "q", "gg", "g ", " g", "u", u(1)[:8], u(1) + "g", "t\x01\x00", "i\x00", "i\x09", "e\x00", "kkg", "h", "pg", "pggg", "sgg", "x", hashes(401), wide(20001), term.Term(strings.Repeat("h", 1<<20)), term.Term(strings.Repeat("pg", 1<<19))}
}

// lists calls f with each list of at most that many of these.
func lists[T any](pieces []T, most int, f func(l []T)) {
	var grow func(l []T)
	grow = func(l []T) {
		f(slices.Clone(l))
		if len(l) < most {
			for _, p := range pieces {
				grow(append(slices.Clone(l), p))
			}
		}
	}
	grow(nil)
}

func sameLogs(a, b []cut.Log) bool {
	return slices.EqualFunc(a, b, func(x, y cut.Log) bool { return x.Sender == y.Sender && slices.Equal(x.Items, y.Items) })
}

func sameParts(a, b []cut.Part) bool {
	return slices.EqualFunc(a, b, func(x, y cut.Part) bool {
		return x.Old == y.Old && x.Sender == y.Sender && slices.Equal(x.Items, y.Items)
	})
}

// spell is numbers and items as a row, byte by byte.
func spell(items row, numbers ...int) term.Term {
	var s strings.Builder
	for _, n := range numbers {
		s.WriteString("p" + string(u(uint64(n))))
	}
	for _, item := range items {
		s.WriteString("p" + string(item))
	}
	return term.Term(s.String()) + u(0)
}

// plainRow says the chapter's words again: a row that is put without an error has right terms, not too many, and is right itself.
func plainRow(items row, numbers ...int) (term.Term, bool) {
	if len(items) == 0 || len(items)+len(numbers) > 150 {
		return "", false
	}
	for _, item := range items {
		if !term.Right(item) {
			return "", false
		}
	}
	whole := spell(items, numbers...)
	return whole, term.Right(whole)
}

// plainPut takes what rises as a set of processes that is gone through.
func plainPut(l []cut.Log) (row, api.Errno) {
	var told row
	at := 0
	for p := 1; p <= 8; p++ {
		if at < len(l) && l[at].Sender == p {
			r, ok := plainRow(l[at].Items, p)
			if !ok {
				return nil, api.ErrArg
			}
			told = append(told, r)
			at++
		}
	}
	if at < len(l) {
		return nil, api.ErrArg
	}
	return told, api.OK
}

// above tells whether the numbers of b are above those of a, the first ones ahead.
func above(a, b [3]int) bool {
	for i := range a {
		if a[i] != b[i] {
			return a[i] < b[i]
		}
	}
	return false
}

func numbersOf(p cut.Part) [3]int { return [3]int{p.Old.Epoch, p.Old.Coord, p.Sender} }

func plainParts(l []cut.Part) (row, api.Errno) {
	var told row
	ahead := [3]int{0, 0, 0}
	for _, p := range l {
		n := numbersOf(p)
		r, ok := plainRow(p.Items, n[:]...)
		if !ok || !above(ahead, n) || n[0] < 0 || n[0] > 2147483647 || n[1] < 0 || n[1] > 8 || n[2] < 1 || n[2] > 8 {
			return nil, api.ErrArg
		}
		ahead = n
		told = append(told, r)
	}
	return told, api.OK
}

// plainSplit takes pairs apart by the calls for parts, with no look at what the numbers are.
func plainSplit(t term.Term, many int) ([3]int, row) {
	var l row
	for parts.Kind(t) == 'p' {
		both := parts.Of(t)
		l, t = append(l, both[0]), both[1]
	}
	var numbers [3]int
	for i := 0; i < many && i < len(l); i++ {
		n, _ := parts.Value(l[i])
		numbers[i] = int(n)
	}
	return numbers, l[min(many, len(l)):]
}

// plainTake is what is told as the same terms again.
func plainTake(l row) ([]cut.Log, api.Errno) {
	var logs []cut.Log
	for _, t := range l {
		n, items := plainSplit(t, 1)
		logs = append(logs, cut.Log{Sender: n[0], Items: items})
	}
	if again, e := plainPut(logs); e != api.OK || !slices.Equal(again, l) {
		return nil, api.ErrForm
	}
	return logs, api.OK
}

func plainUnpart(l row) ([]cut.Part, api.Errno) {
	var told []cut.Part
	for _, t := range l {
		n, items := plainSplit(t, 3)
		told = append(told, part(n[0], n[1], n[2], items...))
	}
	if again, e := plainParts(told); e != api.OK || !slices.Equal(again, l) {
		return nil, api.ErrForm
	}
	return told, api.OK
}

func plainBegins(a, b row) bool {
	for i, t := range a {
		if i >= len(b) || b[i] != t {
			return false
		}
	}
	return true
}

// plainCut asks all reports again for each that has something, the least one first.
func plainCut(l []cut.Report) []cut.Part {
	var told []cut.Part
	for {
		var next *cut.Part
		for _, r := range l {
			for _, g := range r.Logs {
				p := cut.Part{Old: r.Old, Sender: g.Sender, Items: g.Items}
				if len(g.Items) == 0 || len(told) > 0 && !above(numbersOf(told[len(told)-1]), numbersOf(p)) {
					continue
				}
				if next == nil || above(numbersOf(p), numbersOf(*next)) || numbersOf(p) == numbersOf(*next) && len(g.Items) > len(next.Items) {
					next = &p
				}
			}
		}
		if next == nil {
			return told
		}
		told = append(told, *next)
	}
}

func plainMissing(l []cut.Part, old api.Id, logs []cut.Log) []cut.Log {
	var told []cut.Log
	for _, p := range l {
		var mine row
		for _, g := range slices.Backward(logs) {
			if g.Sender == p.Sender {
				mine = g.Items
			}
		}
		if p.Old == old && plainBegins(mine, p.Items) && !plainBegins(p.Items, mine) {
			told = append(told, cut.Log{Sender: p.Sender, Items: p.Items[len(mine):]})
		}
	}
	return told
}

func checkPut(t *testing.T, l []cut.Log) {
	t.Helper()
	want, wantErr := plainPut(l)
	got, e := cut.Put(l)
	if !slices.Equal(got, want) || e != wantErr {
		t.Fatalf("Put of %s: %s %d, want %s %d", show(l), show(got), e, show(want), wantErr)
	}
	if e == api.OK {
		if back, e := cut.Take(got); !sameLogs(back, l) || e != api.OK {
			t.Fatalf("%s was put, %s taken, error %d", show(l), show(back), e)
		}
	}
}

func checkParts(t *testing.T, l []cut.Part) {
	t.Helper()
	want, wantErr := plainParts(l)
	got, e := cut.Parts(l)
	if !slices.Equal(got, want) || e != wantErr {
		t.Fatalf("Parts of %s: %s %d, want %s %d", show(l), show(got), e, show(want), wantErr)
	}
	if e == api.OK {
		if back, e := cut.Unpart(got); !sameParts(back, l) || e != api.OK {
			t.Fatalf("%s was told, %s read, error %d", show(l), show(back), e)
		}
	}
}

// checkTerms hands one list of terms to both that read them.
func checkTerms(t *testing.T, l row) {
	t.Helper()
	logs, logsErr := plainTake(l)
	if got, e := cut.Take(l); !sameLogs(got, logs) || e != logsErr {
		t.Fatalf("Take of %s: %s %d, want %s %d", show(l), show(got), e, show(logs), logsErr)
	}
	told, toldErr := plainUnpart(l)
	if got, e := cut.Unpart(l); !sameParts(got, told) || e != toldErr {
		t.Fatalf("Unpart of %s: %s %d, want %s %d", show(l), show(got), e, show(told), toldErr)
	}
}

func checkCut(t *testing.T, l []cut.Report) []cut.Part {
	t.Helper()
	want, got := plainCut(l), cut.Cut(l)
	if !sameParts(got, want) {
		t.Fatalf("Cut of %s: %s, want %s", show(l), show(got), show(want))
	}
	return got
}

func checkMissing(t *testing.T, l []cut.Part, old api.Id, logs []cut.Log) {
	t.Helper()
	want, got := plainMissing(l, old, logs), cut.Missing(l, old, logs)
	if !sameLogs(got, want) {
		t.Fatalf("Missing of %s, %v, %s: %s, want %s", show(l), old, show(logs), show(got), show(want))
	}
}

// some is items, by chance that is the same each time, of so few terms that one is often another one's beginning.
func some(r *rand.Rand, most int) row {
	l := make(row, r.Intn(most+1))
	for i := range l {
		l[i] = row{"g", "g", "g", "hg", u(1), "pgg"}[r.Intn(6)]
	}
	return l
}

// deep is another one like it that shares no memory.
func deep[T any](v T) T {
	return deepOf(reflect.ValueOf(v)).Interface().(T)
}

func deepOf(v reflect.Value) reflect.Value {
	switch v.Kind() {
	case reflect.Slice:
		if v.IsNil() {
			return v
		}
		l := reflect.MakeSlice(v.Type(), v.Len(), v.Len())
		for i := range v.Len() {
			l.Index(i).Set(deepOf(v.Index(i)))
		}
		return l
	case reflect.Struct:
		s := reflect.New(v.Type()).Elem()
		for i := range v.NumField() {
			s.Field(i).Set(deepOf(v.Field(i)))
		}
		return s
	}
	return v
}
