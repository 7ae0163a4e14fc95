package term_test

import (
	"math/rand"
	"slices"
	"strings"
	"testing"

	"gemot/api"
	"gemot/term"
)

// rightOnes are all right terms of few bytes, and some greater ones.
func rightOnes() []term.Term {
	var l []term.Term
	texts("ghpkesxi\x00\x01\x02t", 5, func(s string) {
		if term.Right(term.Term(s)) {
			l = append(l, term.Term(s))
		}
	})
	r := rand.New(rand.NewSource(3))
	for range 3000 {
		if a := some(r, 7); a != "" {
			l = append(l, a)
		}
	}
	slices.Sort(l)
	return slices.Compact(l)
}

// T3: no term is the beginning of another one. (Sorted by bytes, one would lie next to what it begins.)
func TestNoBeginning(t *testing.T) {
	l := rightOnes()
	if len(l) < 2000 {
		t.Fatal("too few", len(l))
	}
	for i := range len(l) - 1 {
		if strings.HasPrefix(string(l[i+1]), string(l[i])) {
			t.Errorf("%q begins %q", l[i], l[i+1])
		}
	}
}

// again makes a term anew, of its parts, with nothing but the calls.
func again(t *testing.T, a term.Term) (term.Term, api.Errno) {
	var parts []term.Term
	at := 1
	if a[0] == 'e' {
		at = 2
	}
	if strings.IndexByte("ekphsx", a[0]) >= 0 {
		for rest := string(a[at:]); rest != ""; {
			part, behind, e := term.Take(rest)
			if e != api.OK {
				t.Fatalf("%q: part %q: %d", a, rest, e)
			}
			part, e = again(t, part)
			if e != api.OK {
				return "", e
			}
			parts, rest = append(parts, part), behind
		}
	}
	switch a[0] {
	case 'n', 'u':
		n := uint64(0)
		for _, b := range []byte(a[1:]) {
			n = n<<8 | uint64(b)
		}
		if a[0] == 'n' {
			return term.Name(n), api.OK
		}
		return term.Number(n), api.OK
	case 't':
		return term.Text(string(a[3:]))
	case 'i':
		return term.Private(int(a[1]))
	case 'e':
		power, e := term.Gen(), api.OK
		for i := range parts { // from behind, so that each one goes ahead of the others
			if power, e = term.Power(power, parts[len(parts)-1-i]); e != api.OK {
				return "", e
			}
		}
		return power, e
	case 'k':
		return term.Key(parts[0])
	case 'p':
		return term.Pair(parts[0], parts[1])
	case 'h':
		return term.Hash(parts[0])
	case 's':
		return term.Seal(parts[0], parts[1], parts[2])
	case 'x':
		return term.Sign(parts[0], parts[1])
	}
	return term.Gen(), api.OK
}

// T3: each right term is told by the calls, the greatest and the deepest ones too.
func TestEachIsTold(t *testing.T) {
	l := append(rightOnes(), hashes(400), wide(20000), element(20000), term.Term(strings.Repeat("ke\x01", 199)+"kg"), "e\x20"+term.Term(strings.Repeat("g", 32)))
	for _, a := range l {
		if b, e := again(t, a); b != a || e != api.OK {
			t.Fatalf("%q is made again as %q, error %d", a, b, e)
		}
	}
}

// T3: what a call makes is right, whole, and taken as it is.
func TestMadeIsTaken(t *testing.T) {
	r := rand.New(rand.NewSource(9))
	for range 3000 {
		a := some(r, 7)
		if a == "" {
			continue
		}
		b, rest, e := term.Take(string(a) + "rest")
		if !term.Right(a) || b != a || rest != "rest" || e != api.OK {
			t.Fatalf("%q: %q %q %d", a, b, rest, e)
		}
	}
}

// T3: the order in which powers are made does not matter.
func TestOrderOfPowers(t *testing.T) {
	exponents := []term.Term{term.Name(1), "g", term.Name(1), "e\x01g", "pgg", "t\x00\x00"}
	want := "e\x06" + term.Term("e\x01g") + "g" + term.Name(1) + term.Name(1) + "pgg" + "t\x00\x00"
	var turns func(base term.Term, left []term.Term)
	turns = func(base term.Term, left []term.Term) {
		if len(left) == 0 && base != want {
			t.Fatalf("%q, want %q", base, want)
		}
		for i := range left {
			a, e := term.Power(base, left[i])
			if e != api.OK {
				t.Fatal(e)
			}
			turns(a, slices.Concat(left[:i], left[i+1:]))
		}
	}
	turns(term.Gen(), exponents)
}

// T3: of 32 exponents, too; P4: the same is told each time.
func TestOrderOf32(t *testing.T) {
	r := rand.New(rand.NewSource(1))
	var first term.Term
	for try := range 50 {
		a := term.Gen()
		for _, i := range r.Perm(32) {
			a, _ = term.Power(a, term.Number(uint64(i/2)))
		}
		if try == 0 {
			first = a
		}
		if a != first || a[1] != 32 {
			t.Fatalf("%q", a)
		}
	}
}
