package blind_test

import (
	"math"
	"strings"
	"testing"

	"gemot/api"
	"gemot/blind"
	"gemot/term"
)

func checkElement(t *testing.T, secret, want term.Term, wantErr api.Errno) {
	t.Helper()
	got, e := blind.Element(secret)
	checkTerm(t, "Element of "+short(secret), got, e, want, wantErr)
}

// B1: a blind is the generator raised by a secret, whatever term that is.
func TestElement(t *testing.T) {
	for _, secret := range (row{x, "g", "kg", "t\x00\x00", "i\x08", "p" + x + y, "e\x02" + x + y, "ke\x02" + x + y, power(32), hashes(399), wide(19998)}) {
		checkElement(t, secret, "e\x01"+secret, api.OK)
	}
}

// B1: what is no right term has no blind, nor what would be too long, or too deep.
func TestElementWrong(t *testing.T) {
	for _, secret := range wrongTerms() {
		checkElement(t, secret, "", api.ErrArg)
	}
	checkElement(t, wide(19999), "", api.ErrLong)
	checkElement(t, wide(20000), "", api.ErrLong)
	checkElement(t, hashes(400), "", api.ErrDeep)
	checkElement(t, "p"+hashes(399)+wide(19599), "", api.ErrLong)
	checkElement(t, "p"+hashes(399)+wide(19598), "", api.ErrDeep)
}

// B1: what is above is the key of the element that is beside, raised by the secret.
func TestAbove(t *testing.T) {
	for _, c := range []struct{ secret, beside, want term.Term }{
		{x, "e\x01" + y, "ke\x02" + x + y},
		{y, "e\x01" + x, "ke\x02" + x + y},
		{x, "e\x01" + x, "ke\x02" + x + x},
		{x, "g", "ke\x01" + x},
		{"g", "g", "ke\x01g"},
		{y, "e\x03" + x + y + z, "ke\x04" + x + y + y + z},
		{"ke\x02" + x + y, "e\x01" + z, "ke\x02ke\x02" + x + y + z},
		{"e\x01" + x, "e\x01" + y, "ke\x02e\x01" + x + y},
		{x, power(31), "ke\x20" + x + power(31)[2:]},
		{x, "e\x01" + wide(19988), "ke\x02" + x + wide(19988)},
		{wide(19997), "g", "ke\x01" + wide(19997)},
		{hashes(398), "e\x01" + x, "ke\x02" + hashes(398) + x},
		{x, "e\x01" + hashes(398), "ke\x02" + hashes(398) + x},
	} {
		checkAbove(t, c.secret, c.beside, c.want, api.OK)
	}
}

// B1: of several errors that of the power comes ahead of that of its key.
func TestAboveWrong(t *testing.T) {
	for _, wrong := range wrongTerms() {
		checkAbove(t, wrong, "g", "", api.ErrArg)
		checkAbove(t, wrong, power(32), "", api.ErrArg)
		checkAbove(t, x, wrong, "", api.ErrArg)
	}
	for _, beside := range (row{x, "kg", "hg", "ke\x01" + x, "t\x00\x00", "i\x01", "pgg", wide(20000), hashes(400)}) {
		checkAbove(t, x, beside, "", api.ErrArg)
	}
	for _, c := range []struct {
		secret, beside term.Term
		want           api.Errno
	}{
		{x, power(32), api.ErrLong},
		{hashes(400), power(32), api.ErrLong},
		{x, "e\x01" + wide(19989), api.ErrLong},
		{x, "e\x01" + wide(19990), api.ErrLong},
		{wide(19998), "g", api.ErrLong},
		{wide(20000), "g", api.ErrLong},
		{hashes(399), "g", api.ErrDeep},
		{hashes(400), "g", api.ErrDeep},
		{x, "e\x01" + hashes(399), api.ErrDeep},
		{"p" + hashes(398) + wide(19598), "g", api.ErrDeep},
		{"p" + hashes(398) + wide(19599), "g", api.ErrLong},
		{"p" + hashes(399) + wide(19598), "g", api.ErrDeep},
	} {
		checkAbove(t, c.secret, c.beside, "", c.want)
	}
}

// B1: any secret with any element, right or not, against the words said again.
func TestAbovePlain(t *testing.T) {
	all := append(oddTerms(), "", "q", "e\x02"+y+x)
	for _, secret := range all {
		for _, beside := range all {
			want, wantErr := plainAbove(secret, beside)
			checkAbove(t, secret, beside, want, wantErr)
		}
	}
}

func of(epoch, coord int, members ...int) api.View {
	return api.View{Id: api.Id{Epoch: epoch, Coord: coord}, Members: members}
}

// spelled is a view as a term, byte by byte.
func spelled(v api.View) term.Term {
	var s term.Term
	for _, n := range append([]int{0, v.Id.Epoch, v.Id.Coord, 0, 0, 0, len(v.Members)}, v.Members...) {
		s += "p" + term.Number(uint64(n))
	}
	return s + term.Number(0)
}

func checkGroup(t *testing.T, v api.View, root, want term.Term, wantErr api.Errno) {
	t.Helper()
	got, e := blind.Group(v, root)
	checkTerm(t, "Group with "+short(root), got, e, want, wantErr)
}

// B1: the key of a view is the hash of the pair of the view and the secret of all.
func TestGroup(t *testing.T) {
	for _, v := range []api.View{of(0, 1, 1), of(3, 2, 1, 2), of(math.MaxInt32, 8, 8), of(7, 5, 1, 2, 3, 4, 5, 6, 7, 8)} {
		for _, root := range (row{x, "g", "ke\x02" + x + y, "t\x00\x00", hashes(398)}) {
			checkGroup(t, v, root, "hp"+spelled(v)+root, api.OK)
		}
		free := 20000 - len("hp") - len(spelled(v))
		checkGroup(t, v, wide(free), "hp"+spelled(v)+wide(free), api.OK)
		checkGroup(t, v, wide(free+1), "", api.ErrLong)
		checkGroup(t, v, wide(free+2), "", api.ErrLong)
		checkGroup(t, v, wide(20000), "", api.ErrLong)
		checkGroup(t, v, hashes(399), "", api.ErrDeep)
		checkGroup(t, v, hashes(400), "", api.ErrDeep)
		checkGroup(t, v, "p"+hashes(399)+wide(19600), "", api.ErrLong)
	}
}

// B1: there is none of what is no view, nor with what is no right term.
func TestGroupWrong(t *testing.T) {
	for _, root := range wrongTerms() {
		checkGroup(t, of(3, 2, 1, 2), root, "", api.ErrArg)
	}
	for _, v := range []api.View{
		{}, of(1, 1), of(1, 2, 1), of(1, 0, 1), of(-1, 1, 1), of(1<<31, 1, 1), of(math.MinInt, 1, 1), of(1, 1, 2, 1), of(1, 1, 1, 1), of(1, 9, 9), of(1, 0, 0, 1), of(1, 1, 1, 9),
	} {
		for _, root := range (row{x, "", "q", wide(20000), hashes(400), term.Term(strings.Repeat("h", 1<<18))}) {
			checkGroup(t, v, root, "", api.ErrArg)
		}
	}
}
