package blind_test

import (
	"slices"
	"testing"

	"gemot/api"
	"gemot/blind"
)

// P3 of the whole: what is handed in is not written into, what lies behind its length is not read, and lists are told anew each time.
func TestHandedInStays(t *testing.T) {
	l := append(of3(), blind.Blind{Node: "r", Element: "g"})
	was := slices.Clone(l)
	for range 3 {
		for end, want := range map[int]row{0: {x}, 2: {x, low}, 3: {x, low}, 4: {x, low, root}} {
			got := blind.Climb("((12)3)", 1, x, l[:end])
			if !slices.Equal(got, want) {
				t.Fatalf("%d blinds: %s", end, shorts(got))
			}
			for i := range got[:cap(got)] {
				got[:cap(got)][i] = "q"
			}
		}
	}
	if !slices.Equal(l, was) {
		t.Errorf("%q", l)
	}
	secrets := row{z, y, x, w}
	checkRoot(t, "((12)3)", secrets[:3], "ke\x02ke\x02"+y+z+x, api.OK)
	checkRoot(t, "((12)3)", secrets[:2], "", api.ErrArg)
	checkRoot(t, "(12)", secrets[1:3], "ke\x02"+x+y, api.OK)
	if !slices.Equal(secrets, row{z, y, x, w}) {
		t.Errorf("%q", secrets)
	}
	v := of(3, 2, 1, 2, 7)
	v.Members = v.Members[:2]
	checkGroup(t, v, x, "hp"+spelled(of(3, 2, 1, 2))+x, api.OK)
	if v.Members = v.Members[:3]; !slices.Equal(v.Members, []int{1, 2, 7}) {
		t.Error(v)
	}
}
