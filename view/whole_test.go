package view_test

import (
	"slices"
	"testing"

	"gemot/api"
	"gemot/view"
)

// use hands two lists to all calls that take one.
func use(a, b []int) [][]int {
	view.Row(a)
	view.Has(a, 4)
	view.Same(a, b)
	v := api.View{Id: id(1, 4), Members: a}
	view.Right(v)
	view.Term(v)
	return [][]int{view.Both(a, b), view.Without(a, b), view.Both(a, a), view.Without(a, nil), view.Without(a, []int{})}
}

// P3 of the whole: lists that are handed in stay as they were, sorted or not, and so does what lies behind their length.
func TestHandedIn(t *testing.T) {
	for _, a := range [][]int{{1, 2, 4, 7}, {4, 7, 2, 1}, {9, 4, 4, -1}, {4}, {}} {
		for _, b := range [][]int{{2, 3, 4}, {4, 3, 2}, {}} {
			behindA, behindB := append(slices.Clone(a), 2, 4, 1), append(slices.Clone(b), 7, 1)
			wasA, wasB := slices.Clone(behindA), slices.Clone(behindB)
			got, want := use(behindA[:len(a)], behindB[:len(b)]), use(a, b)
			for i, l := range got {
				if !plainSame(l, want[i]) {
					t.Fatal(i, l, want[i])
				}
				for j := range l {
					l[j] = -7
				}
				_ = append(l, -7, -7, -7)
			}
			if !plainSame(behindA, wasA) || !plainSame(behindB, wasB) {
				t.Fatal(a, b, behindA, behindB)
			}
		}
	}
}

// P3 and P4 of the whole: the same lists are answered the same, each time anew, and a later change of what was handed in is not seen.
func TestAnsweredAnew(t *testing.T) {
	a, b := []int{7, 2, 1, 4}, []int{4, 3, 7}
	first, second := use(a, b), use(a, b)
	for i := range first {
		if !plainSame(first[i], second[i]) {
			t.Fatal(i, first[i], second[i])
		}
		was := slices.Clone(second[i])
		for j := range first[i] {
			first[i][j] = -7
		}
		if !plainSame(second[i], was) {
			t.Fatal(i, second[i])
		}
	}
	changed := use(a, b)
	for i := range a {
		a[i] = -7
	}
	if !plainSame(changed[3], []int{7, 2, 1, 4}) || !plainSame(changed[0], []int{7, 4}) {
		t.Error(changed)
	}
}

// P1 of the whole: lists of any length, with each of the one in the other, or none.
func TestLong(t *testing.T) {
	const many = 1 << 20
	up, down, odd := make([]int, many), make([]int, many), make([]int, many)
	for i := range many {
		up[i], down[many-1-i], odd[i] = 2*i, 2*i, 2*i+1
	}
	if got := view.Both(up, down); !slices.Equal(got, up) {
		t.Error(len(got))
	}
	if got := view.Both(down, up); !slices.Equal(got, down) {
		t.Error(len(got))
	}
	if got := view.Without(down, odd); !slices.Equal(got, down) {
		t.Error(len(got))
	}
	if view.Has(down, 2*many) || !view.Has(down, 2*many-2) || view.Has(odd, 0) || !view.Same(up, slices.Clone(up)) || view.Same(up, down) {
		t.Error("has, same")
	}
	if view.Row(up[1:]) || view.Row(make([]int, many)) {
		t.Error("row")
	}
	checkWrong(t, of(1, 2, up[1:]...))
	checkWrong(t, of(1, 0, make([]int, many)...))
}
