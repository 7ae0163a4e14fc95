package place_test

import (
	"testing"

	"gemot/api"
	"gemot/place"
	"gemot/tree"
)

// P3 and P4 of the whole: the same is answered the same, and lists are told anew each time, however the ones told before were written into.
func TestAnsweredAnew(t *testing.T) {
	const x tree.Tree = "((83)(57))"
	lists := []struct {
		call string
		tell func() []string
		want []string
	}{
		{"Nodes", func() []string { return place.Nodes(x) }, []string{"", "l", "r", "ll", "lr", "rl", "rr"}},
		{"Path", func() []string { return place.Path(x, 5) }, []string{"rl", "r", ""}},
		{"Co", func() []string { return place.Co(x, 5) }, []string{"rr", "l"}},
		{"Duties", func() []string { return place.Duties(x, 5) }, []string{"rl", "r"}},
	}
	for range 3 {
		for _, c := range lists {
			l := c.tell()
			checkList(t, c.call, l, c.want)
			for i := range l[:cap(l)] {
				l[:cap(l)][i] = "x"
			}
		}
		checkAt(t, x, "r", "(57)", api.OK)
		checkSponsor(t, x, "r", 5)
	}
}
