package member_test

import (
	"math/rand"
	"slices"
	"testing"

	"gemot/api"
	"gemot/list"
	"gemot/member"
	"gemot/term"
	"gemot/view"
)

// letter is a message on its way.
type letter struct {
	from, to int
	m        list.Message
}

// town is nodes of 1 to some, letters between them, and what each met, in order. All items that are cast are unlike.
type town struct {
	r       *rand.Rand
	nodes   []*member.Node
	letters []letter
	met     [][]member.Event
	items   uint64
}

func found(t *testing.T, r *rand.Rand, many int) *town {
	w := &town{r: r, nodes: make([]*member.Node, many+1), met: make([][]member.Event, many+1)}
	for p := 1; p <= many; p++ {
		w.nodes[p] = begin(t, p)
	}
	return w
}

func (w *town) some() int { return 1 + w.r.Intn(len(w.nodes)-1) }

func (w *town) note(p int, outs []member.Out, events []member.Event) {
	for _, o := range outs {
		w.letters = append(w.letters, letter{p, o.To, o.M})
	}
	w.met[p] = append(w.met[p], events...)
}

// come has the i-th letter come; it goes on lying, if it is to be doubled.
func (w *town) come(i int, doubled bool) {
	l := w.letters[i]
	if !doubled {
		w.letters = slices.Delete(w.letters, i, i+1)
	}
	outs, events := w.nodes[l.to].Take(l.from, l.m)
	w.note(l.to, outs, events)
}

func (w *town) cast(p int) {
	w.items++
	outs, events, _ := w.nodes[p].Cast(term.Number(w.items))
	w.note(p, outs, events)
}

// suggest is of p and some above it.
func (w *town) suggest(p int) {
	members := []int{p}
	for q := p + 1; q < len(w.nodes); q++ {
		if w.r.Intn(3) > 0 {
			members = append(members, q)
		}
	}
	outs, events := w.nodes[p].Suggest(members)
	w.note(p, outs, events)
}

func (w *town) step() {
	p := w.some()
	switch k := w.r.Intn(40); {
	case k < 6:
		w.cast(p)
	case k == 6:
		w.suggest(p)
	case k == 7:
		w.nodes[p].Heed(w.nodes[w.some()].Promised())
	case len(w.letters) == 0:
	case k == 8:
		w.letters = slices.Delete(w.letters, 0, 1)
	case k < 14: // turned, and perhaps doubled
		w.come(w.r.Intn(len(w.letters)), w.r.Intn(2) == 0)
	default:
		w.come(0, false)
	}
}

// stay is all that one was told in one view, by sender, and the id that it went to next.
type stay struct {
	of   api.View
	came map[int]row
	next api.Id
}

// stays are one's views, in order: of the deliveries in each the numbers are 1, 2, 3, and so on, and the ids rise.
func stays(t *testing.T, p int, events []member.Event) []stay {
	t.Helper()
	l := []stay{{of: of(0, p, p), came: map[int]row{}}}
	for _, e := range events {
		now := &l[len(l)-1]
		if e.Kind == member.Enter {
			if !view.Less(now.of.Id, e.View.Id) || !view.Has(e.View.Members, p) || e.Sender != 0 || e.Number != 0 || e.Item != "" {
				t.Fatalf("%d goes from %v to %v", p, now.of, e)
			}
			now.next = e.View.Id
			l = append(l, stay{of: e.View, came: map[int]row{}})
			continue
		}
		if !sameView(e.View, now.of) || e.Number != len(now.came[e.Sender])+1 || !view.Has(now.of.Members, e.Sender) {
			t.Fatalf("%d in %v: %v", p, now.of, e)
		}
		now.came[e.Sender] = append(now.came[e.Sender], e.Item)
	}
	return l
}

// bound is a view, and the one behind it.
type bound struct{ from, to api.Id }

// follows holds what all met to the promise; it tells how many went from one view to the next one as another one did.
func (w *town) follows(t *testing.T) (together int) {
	t.Helper()
	var all []stay
	cast := map[api.Id]map[int]row{}
	members := map[api.Id][]int{}
	for p := 1; p < len(w.nodes); p++ {
		for _, s := range stays(t, p, w.met[p]) {
			all = append(all, s)
			if cast[s.of.Id] == nil {
				cast[s.of.Id], members[s.of.Id] = map[int]row{}, s.of.Members
			}
			cast[s.of.Id][p] = s.came[p]
			if !slices.Equal(members[s.of.Id], s.of.Members) {
				t.Fatalf("%v is of %v, too", s.of, members[s.of.Id])
			}
		}
	}
	had := map[bound]stay{}
	for _, s := range all {
		for q, items := range s.came {
			if mine := cast[s.of.Id][q]; len(items) > len(mine) || !slices.Equal(items, mine[:len(items)]) {
				t.Fatalf("in %v of %d %s, where it cast %s", s.of, q, show(items), show(mine))
			}
		}
		if s.next == (api.Id{}) {
			continue
		}
		other, there := had[bound{s.of.Id, s.next}]
		if there {
			together++
		}
		if there && !sameCame(other.came, s.came) {
			t.Fatalf("from %v to %v: %s and %s", s.of, s.next, show(other.came), show(s.came))
		}
		had[bound{s.of.Id, s.next}] = s
	}
	return together
}

func sameCame(a, b map[int]row) bool {
	for p := range 9 {
		if !slices.Equal(a[p], b[p]) {
			return false
		}
	}
	return true
}

// M5: whatever is lost, doubled or turned: what is delivered is the beginning of what was cast; those that go from one view to the next one together have had the same; ids rise.
func TestFollows(t *testing.T) {
	r := rand.New(rand.NewSource(5))
	together, events := 0, 0
	for range 1200 {
		w := found(t, r, 2+r.Intn(4))
		for range 1000 {
			w.step()
		}
		together += w.follows(t)
		for _, l := range w.met {
			events += len(l)
		}
	}
	t.Logf("%d together, %d events", together, events)
	if together < 1500 || events < 150000 {
		t.Error("too little came to be")
	}
}

// allTogether has the first one suggest all, and all of that come.
func (w *town) allTogether() {
	first := w.nodes[1]
	var members []int
	for p := 1; p < len(w.nodes); p++ {
		members = append(members, p)
	}
	first.Heed(id(first.Promised().Epoch, 9)) // so that there is something to suggest, whoever is together
	outs, events := first.Suggest(members)
	w.note(1, outs, events)
	for len(w.letters) > 0 {
		w.come(0, false)
	}
}

// M5: when all of a plan comes, all are together in its view, and have had all that was cast in the one before, though most of it was lost.
func TestAllComes(t *testing.T) {
	r := rand.New(rand.NewSource(6))
	for range 50 {
		w := found(t, r, 1+r.Intn(8))
		for round := range 4 {
			w.allTogether()
			for p, n := range w.nodes[1:] {
				if v := n.View(); n.Flushing() || v.Id != w.nodes[1].View().Id || len(v.Members) != len(w.nodes)-1 {
					t.Fatal(round, p+1, v)
				}
			}
			for range 20 {
				w.cast(w.some())
			}
			w.letters = slices.DeleteFunc(w.letters, func(letter) bool { return r.Intn(4) > 0 })
		}
		w.allTogether()
		w.follows(t)
		checkAllCame(t, w)
	}
}

func checkAllCame(t *testing.T, w *town) {
	t.Helper()
	first := stays(t, 1, w.met[1])
	for p := 2; p < len(w.nodes); p++ {
		l := stays(t, p, w.met[p])
		for i := 1; i < len(first); i++ {
			if len(l) != len(first) || l[i].of.Id != first[i].of.Id || !sameCame(l[i].came, first[i].came) || !slices.Equal(l[i].came[p], first[i].came[p]) {
				t.Fatalf("%d: %s, want %s", p, show(l), show(first))
			}
		}
	}
	came := 0
	for _, s := range first[1 : len(first)-1] {
		for _, items := range s.came {
			came += len(items)
		}
	}
	if came != 4*20 {
		t.Errorf("%d items came", came)
	}
}
