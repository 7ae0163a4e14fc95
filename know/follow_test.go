package know_test

import (
	"math/rand"
	"slices"
	"testing"

	"gemot/know"
	"gemot/term"
)

// K3: the chapter's example.
func TestExample(t *testing.T) {
	l := row{power(x), y}
	if !know.Derivable(l, power(x, y)) || know.Derivable(l, x) {
		t.Error("g to the x, and y")
	}
}

// K3: who knows more can make no less.
func TestMoreIsNoLess(t *testing.T) {
	r := rand.New(rand.NewSource(11))
	for range 1500 {
		l := someRow(r, 6, 4)
		more := append(slices.Clone(l), someRow(r, 4, 4)...)
		greater := know.Close(more)
		for _, a := range know.Close(l) {
			if _, there := slices.BinarySearch(greater, a); !there {
				t.Fatalf("%s, and more: %s is lost", show(l...), show(a))
			}
		}
		for _, goal := range goals(r, l) {
			if know.Derives(l, goal) && !know.Derives(more, goal) || know.Derivable(l, goal) && !know.Derivable(more, goal) {
				t.Fatalf("%s, and more: %s is not made any more", show(l...), show(goal))
			}
		}
	}
}

// K3: what can be made adds nothing, nor what was taken out.
func TestMadeAddsNothing(t *testing.T) {
	r := rand.New(rand.NewSource(13))
	for range 1500 {
		l := someRow(r, 6, 4)
		asked := goals(r, l)
		richer := slices.Clone(l)
		for _, a := range asked {
			if know.Derivable(l, a) {
				richer = append(richer, a)
			}
		}
		closed := know.Close(l)
		if !slices.Equal(know.Close(closed), closed) {
			t.Fatalf("%s: closed again it is more", show(l...))
		}
		for _, goal := range append(asked, goals(r, asked)...) {
			can := know.Derivable(l, goal)
			if know.Derivable(richer, goal) != can || know.Derivable(closed, goal) != can || know.Derives(closed, goal) != can {
				t.Fatalf("%s: %s is made otherwise of what was made", show(l...), show(goal))
			}
		}
	}
}

// K3: what stands nowhere but where it cannot be taken out is not made.
func TestHiddenStaysHidden(t *testing.T) {
	for _, secret := range (row{x, i1}) {
		hidden := row{
			"h" + secret, "hp" + secret + y, power(secret), power(secret, y), power("p"+secret+y, z), key(power(secret)), key(power(y, secret)),
			seal(w, y, secret), seal(w, y, "p"+secret+z), seal(secret, y, z), seal(secret, y, secret), seal("h"+w, y, secret), seal(key(power(w, w)), u7, secret),
			"x" + secret + y, "x" + i2 + "h" + secret, "p" + y + "h" + secret, "ph" + secret + power(secret), power(w), key(power(w)),
		}
		l := append(slices.Clone(hidden), y, z, i2, "g")
		for _, goal := range (row{secret, "p" + secret + y, "x" + secret + z, seal(secret, "g", "g"), "hh" + w, power(secret, secret), power(secret, secret, y), key(power(secret, secret))}) {
			if know.Derivable(l, goal) {
				t.Errorf("%s was made", show(goal))
			}
		}
		for _, goal := range (row{"hh" + secret, power(secret, y, z), key(power(secret, z)), power(w, y), seal(key(power(secret, y)), u7, ta)}) {
			if !know.Derivable(l, goal) {
				t.Errorf("%s was not made", show(goal))
			}
		}
		for _, more := range (row{w, "p" + w + z, "x" + i2 + w, "h" + w, power(w, w), seal("h"+secret, z, w), seal(key(power(w, y)), z, secret)}) {
			if !know.Derivable(append(slices.Clone(l), more), secret) {
				t.Errorf("%s was not taken out with %s", show(secret), show(more))
			}
		}
	}
}

// wrap hides a secret in a term from which it cannot be taken out without w.
func wrap(r *rand.Rand, secret term.Term) term.Term {
	inner := secret
	if r.Intn(2) == 0 {
		inner = "p" + some(r, 2) + secret
	}
	switch r.Intn(5) {
	case 0:
		return "h" + inner
	case 1:
		return power(inner, y)
	case 2:
		return key(power(inner))
	case 3:
		return "x" + inner + y
	}
	return seal("h"+w, u7, inner)
}

// K3: whatever else is heard beside it, as long as w is not.
func TestHiddenAmongOthers(t *testing.T) {
	r := rand.New(rand.NewSource(17))
	secret := term.Name(99)
	for range 3000 {
		var l row
		for _, a := range someRow(r, 6, 4) {
			l = append(l, a, wrap(r, secret))
		}
		if slices.ContainsFunc(know.Close(l), func(a term.Term) bool { return a == w || a == "h"+w }) {
			continue
		}
		if know.Derivable(l, secret) || know.Derivable(l, "x"+secret+z) || slices.Contains(know.Close(l), secret) {
			t.Fatalf("made of %s", show(l...))
		}
	}
}
