package know

import (
	"gemot/parts"
	"gemot/term"
)

// lock is a key of seals, and what they keep.
type lock struct {
	key   term.Term
	texts []term.Term // those of seals that were found while it was shut
	open  bool        // the key can be made
	woken bool        // it is to be tried, and waits for that already
}

// gatherer takes out of terms what can be taken out. A key that could not be made is tried again only when a term is added that may help it: with many seals, going through all of them each time would be far too slow.
type gatherer struct {
	row    *row
	fresh  []term.Term           // found, and not yet added
	locks  map[term.Term]*lock   // by their keys
	within map[term.Term][]*lock // by term: those in whose key it stands
	woken  []*lock
}

func newGatherer() *gatherer {
	return &gatherer{row: newRow(), locks: map[term.Term]*lock{}, within: map[term.Term][]*lock{}}
}

// gather ends when nothing is added any more. All that is fresh is added ahead of the next try, so that a key with many terms in it is not tried for each of them.
func (g *gatherer) gather() {
gathering:
	for {
		for len(g.fresh) > 0 {
			g.add(pop(&g.fresh))
		}
		for len(g.woken) > 0 {
			if g.opens(pop(&g.woken)) {
				continue gathering
			}
		}
		return
	}
}

func pop[T any](l *[]T) T {
	last := len(*l) - 1
	t := (*l)[last]
	*l = (*l)[:last]
	return t
}

// opens tries a lock; what its seals keep is fresh then.
func (g *gatherer) opens(k *lock) bool {
	k.woken = false
	if !g.row.makes(k.key) {
		return false
	}
	g.fresh = append(g.fresh, k.texts...)
	k.open, k.texts = true, nil
	return true
}

// add counts on t being right.
func (g *gatherer) add(t term.Term) {
	if !g.row.add(t) {
		return
	}
	g.wake(t)
	switch t[0] {
	case kindPower:
		// It may be what another power is made of, and then all its exponents stand there too: one of them is enough to find it.
		g.wake(parts.Of(t)[0])
	case kindPair:
		g.fresh = append(g.fresh, parts.Of(t)...)
	case kindSignature:
		g.fresh = append(g.fresh, parts.Of(t)[1])
	case kindSeal:
		inner := parts.Of(t)
		g.fresh = append(g.fresh, inner[1])
		g.shut(inner[0], inner[2])
	}
}

// shut keeps the text of a seal until its key can be made.
func (g *gatherer) shut(key, text term.Term) {
	k := g.locks[key]
	if k == nil {
		k = &lock{key: key}
		g.locks[key] = k
		for _, t := range parts.All(key) {
			g.within[t] = append(g.within[t], k)
		}
		g.rouse(k)
	}
	if k.open {
		g.fresh = append(g.fresh, text)
		return
	}
	k.texts = append(k.texts, text)
}

// wake has those be tried whose key t stands in.
func (g *gatherer) wake(t term.Term) {
	for _, k := range g.within[t] {
		g.rouse(k)
	}
}

func (g *gatherer) rouse(k *lock) {
	if !k.open && !k.woken {
		k.woken = true
		g.woken = append(g.woken, k)
	}
}
