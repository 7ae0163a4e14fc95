package view_test

import (
	"encoding/binary"
	"math"
	"slices"
	"strings"
	"testing"

	"gemot/api"
	"gemot/list"
	"gemot/term"
	"gemot/view"
)

func id(epoch, coord int) api.Id { return api.Id{Epoch: epoch, Coord: coord} }

func of(epoch, coord int, members ...int) api.View {
	return api.View{Id: id(epoch, coord), Members: members}
}

// edges are numbers at the bounds of processes, epochs and ints, and some that a smaller int would hold as others.
func edges() []int {
	return []int{0, 1, 2, 7, 8, 9, -1, -8, 255, 256, 256 + 1, 1<<31 - 2, 1<<31 - 1, 1 << 31, 1<<32 - 1, 1 << 32, 1<<32 + 1, -1 << 31, -1 << 32, math.MaxInt - 1, math.MaxInt, math.MinInt, math.MinInt + 1}
}

// rows are all that are: each set of the processes, but that of nobody.
func rows() [][]int {
	var all [][]int
	for set := 1; set < 256; set++ {
		var l []int
		for p := 1; p <= 8; p++ {
			if set>>(p-1)&1 == 1 {
				l = append(l, p)
			}
		}
		all = append(all, l)
	}
	return all
}

// lists calls f with each list of at most that many of these numbers.
func lists(numbers []int, most int, f func(l []int)) {
	var grow func(l []int)
	grow = func(l []int) {
		f(slices.Clone(l))
		if len(l) < most {
			for _, n := range numbers {
				grow(append(slices.Clone(l), n))
			}
		}
	}
	grow(nil)
}

// plainRow says the chapter's words again: rows are what each of a few numbers is in once, or not at all.
func plainRow(l []int) bool {
	return slices.ContainsFunc(rows(), func(r []int) bool { return plainSame(l, r) })
}

func plainHas(l []int, p int) bool {
	many := 0
	for _, q := range l {
		if q == p {
			many++
		}
	}
	return many > 0
}

func plainSame(a, b []int) bool {
	if len(a) != len(b) {
		return false
	}
	for i := range a {
		if a[i] != b[i] {
			return false
		}
	}
	return true
}

// plainBoth is of those in both, and of those in the first one alone.
func plainBoth(a, b []int) (both, alone []int) {
	for _, p := range a {
		if plainHas(b, p) {
			both = append(both, p)
		} else {
			alone = append(alone, p)
		}
	}
	return both, alone
}

// plainTerm spells a view byte by byte: a row of numbers, the last one being the number 0 that a row ends with.
func plainTerm(v api.View) term.Term {
	numbers := []int{0, v.Id.Epoch, v.Id.Coord, 0, 0, 0, len(v.Members)}
	var s strings.Builder
	for _, n := range append(numbers, v.Members...) {
		s.WriteString("p" + number(n))
	}
	return term.Term(s.String() + number(0))
}

func number(n int) string {
	return "u" + string(binary.BigEndian.AppendUint64(nil, uint64(n)))
}

func checkRight(t *testing.T, v api.View) {
	t.Helper()
	a, e := view.Term(v)
	if !view.Right(v) || a != plainTerm(v) || e != api.OK {
		t.Fatalf("%v: Right %v, Term %q, error %d", v, view.Right(v), a, e)
	}
	m, e := list.Unpack(a)
	if e != api.OK || m.Kind != 0 || m.Id != v.Id || m.Old != id(0, 0) || m.Number != 0 || !plainSame(m.Members, v.Members) || len(m.Terms) != 0 {
		t.Fatalf("%v: %v %d", v, m, e)
	}
}

func checkWrong(t *testing.T, v api.View) {
	t.Helper()
	if a, e := view.Term(v); view.Right(v) || a != "" || e != api.ErrArg {
		t.Fatalf("%v, members %.20v: Right %v, Term %q, error %d", v.Id, v.Members, view.Right(v), a, e)
	}
}

// checkTwo holds all that is of two lists against the plain words.
func checkTwo(t *testing.T, a, b []int) {
	t.Helper()
	both, alone := plainBoth(a, b)
	if got := view.Both(a, b); !plainSame(got, both) {
		t.Fatalf("Both(%v, %v): %v, want %v", a, b, got, both)
	}
	if got := view.Without(a, b); !plainSame(got, alone) {
		t.Fatalf("Without(%v, %v): %v, want %v", a, b, got, alone)
	}
	if got := view.Same(a, b); got != plainSame(a, b) {
		t.Fatalf("Same(%v, %v): %v", a, b, got)
	}
}
