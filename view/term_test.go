package view_test

import (
	"testing"

	"gemot/api"
	"gemot/term"
	"gemot/view"
)

// V1 and V2: each row with each one that may have made it, and with each that may not.
func TestRightAndTerm(t *testing.T) {
	for _, members := range rows() {
		for _, coord := range append(edges(), 3, 4, 5, 6) {
			if v := of(3, coord, members...); plainHas(members, coord) {
				checkRight(t, v)
			} else {
				checkWrong(t, v)
			}
		}
	}
}

// V1 and V2: an Epoch of 0 to 2^31 - 1, and none beside.
func TestEpochs(t *testing.T) {
	for _, epoch := range edges() {
		if v := of(epoch, 2, 1, 2); epoch >= 0 && epoch <= 2147483647 {
			checkRight(t, v)
		} else {
			checkWrong(t, v)
		}
	}
}

// V1 and V2: Members that are no row make no view, whether Coord is there or not.
func TestWrongMembers(t *testing.T) {
	lists([]int{0, 1, 2, 8, 9, -1}, 4, func(l []int) {
		for _, coord := range []int{0, 1, 2, 8, 9, -1} {
			if v := of(1, coord, l...); plainRow(l) && plainHas(l, coord) {
				checkRight(t, v)
			} else {
				checkWrong(t, v)
			}
		}
	})
	checkWrong(t, api.View{})
	checkWrong(t, api.View{Id: id(1, 1), Members: []int{}})
	checkWrong(t, of(1, 1, 1, 2, 2))
	checkWrong(t, of(1, 1, 2, 1))
	checkWrong(t, of(1, 9, 9))
}

// V2: the bytes of one view, written out.
func TestTermSpelled(t *testing.T) {
	const zeros = "\x00\x00\x00\x00\x00\x00\x00"
	u := func(b string) string { return "u" + zeros + b }
	want := term.Term("p" + u("\x00") + "p" + u("\x05") + "p" + u("\x02") + "p" + u("\x00") + "p" + u("\x00") + "p" + u("\x00") + "p" + u("\x03") +
		"p" + u("\x01") + "p" + u("\x02") + "p" + u("\x08") + u("\x00"))
	if a, e := view.Term(of(5, 2, 1, 2, 8)); a != want || e != api.OK {
		t.Errorf("%q %d", a, e)
	}
}

// V3: views that are unlike are unlike terms, each right and none the beginning of another one.
func TestUnlike(t *testing.T) {
	type named struct {
		id  api.Id
		set int
	}
	made := map[term.Term]named{}
	for _, members := range rows() {
		set := 0
		for _, p := range members {
			set |= 1 << p
		}
		for _, coord := range members {
			for _, epoch := range []int{0, 1, 2, 8, 255, 256, 1 << 30, 1<<31 - 1} {
				v := of(epoch, coord, members...)
				a, e := view.Term(v)
				if other, there := made[a]; there || e != api.OK || !term.Right(a) {
					t.Fatal(v, other, e)
				}
				made[a] = named{v.Id, set}
			}
		}
	}
	if len(made) != 1024*8 {
		t.Error(len(made))
	}
}
