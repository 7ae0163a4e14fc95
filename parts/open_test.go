package parts_test

import (
	"math"
	"math/rand"
	"testing"

	"gemot/api"
	"gemot/parts"
	"gemot/term"
)

func checkOpen(t *testing.T, s, key, nonce, text term.Term, want api.Errno) {
	t.Helper()
	if n, m, e := parts.Open(s, key); n != nonce || m != text || e != want {
		t.Errorf("Open(%s, %s) tells %s %s %d, want error %d", short(s), short(key), short(n), short(m), e, want)
	}
}

func checkSigned(t *testing.T, s term.Term, p int, text term.Term, want api.Errno) {
	t.Helper()
	if m, e := parts.Check(s, p); m != text || e != want {
		t.Errorf("Check(%s, %d) tells %s %d, want error %d", short(s), p, short(m), e, want)
	}
}

// P2: a seal is opened by its key, and tells its nonce and its text, in that order.
func TestOpen(t *testing.T) {
	key, nonce, text := term.Term("ke\x01")+term.Name(1), term.Number(2), term.Term("t\x00\x02hi")
	s := must(term.Seal(key, nonce, text))
	checkOpen(t, s, key, nonce, text, api.OK)
	for _, other := range []term.Term{"", "g", "q", nonce, text, s, key + "g", key[:len(key)-1], "h" + key, key[1:], "ke\x01" + term.Name(2), "ke\x01" + term.Number(1), hashes(401), wide(20001)} {
		checkOpen(t, s, other, "", "", api.ErrKey)
	}
	checkOpen(t, "sggg", "g", "g", "g", api.OK)
	checkOpen(t, "ssgggsgggsggg", "sggg", "sggg", "sggg", api.OK)
	checkOpen(t, "ssgggghg", "sggg", "g", "hg", api.OK)
	checkOpen(t, "ssgggghg", "g", "", "", api.ErrKey)
	checkOpen(t, "shgg"+hashes(399), "hg", "g", hashes(399), api.OK)
	checkOpen(t, "shgg"+wide(19996), "hg", "g", wide(19996), api.OK)
	checkOpen(t, "s"+hashes(399)+"gi\x01", hashes(399), "g", "i\x01", api.OK)
}

// P2: what is no right seal is told ahead of a key that does not fit.
func TestOpenWrong(t *testing.T) {
	key := term.Term("hg")
	for _, s := range append(wrongs(), leaves()...) {
		checkOpen(t, s, "g", "", "", api.ErrForm)
		checkOpen(t, s, "", "", "", api.ErrForm)
	}
	for _, s := range []term.Term{"phgg", "hhg", "xhgg", "kg", "e\x01hg", "e\x03ggg", "hshggg", "pshgggg", "xi\x01shggg", "shggq", "shgg", "shgggg", "shgg" + hashes(400), "shgg" + wide(19997), "Shggg"} {
		checkOpen(t, s, key, "", "", api.ErrForm)
		checkOpen(t, s, "q", "", "", api.ErrForm)
	}
}

// P2: a signature is checked against the private key of each process.
func TestCheck(t *testing.T) {
	text := term.Term("pg") + term.Name(3)
	for signer := 1; signer <= 8; signer++ {
		s := must(term.Sign(must(term.Private(signer)), text))
		for p := 1; p <= 8; p++ {
			if p == signer {
				checkSigned(t, s, p, text, api.OK)
			} else {
				checkSigned(t, s, p, "", api.ErrKey)
			}
		}
		for _, p := range []int{0, 9, -1, -signer, 10, signer + 16, signer + 255, signer + 256, signer - 256, signer + 1<<32, math.MaxInt, math.MinInt, math.MinInt + signer} {
			checkSigned(t, s, p, "", api.ErrKey)
		}
	}
	checkSigned(t, "xi\x01i\x02", 1, "i\x02", api.OK)
	checkSigned(t, "xi\x01i\x02", 2, "", api.ErrKey)
	checkSigned(t, "xi\x04xi\x05g", 4, "xi\x05g", api.OK)
	checkSigned(t, "xi\x04xi\x05g", 5, "", api.ErrKey)
	checkSigned(t, "xi\x08"+hashes(399), 8, hashes(399), api.OK)
	checkSigned(t, "xi\x08"+wide(19997), 8, wide(19997), api.OK)
}

// P2: signatures by keys that are nobody's are right, but fit no process.
func TestCheckOtherKeys(t *testing.T) {
	for _, key := range []term.Term{"g", term.Name(1), term.Number(1), "t\x00\x02i\x01", "hi\x01", "e\x01i\x01", "ke\x01i\x01", "pi\x01i\x01", "xi\x01i\x01"} {
		for p := -1; p <= 10; p++ {
			checkSigned(t, must(term.Sign(key, "i\x01")), p, "", api.ErrKey)
		}
	}
}

// P2: what is no right signature is told ahead of a process that does not fit.
func TestCheckWrong(t *testing.T) {
	for _, s := range append(wrongs(), leaves()...) {
		for _, p := range []int{1, 0, 9} {
			checkSigned(t, s, p, "", api.ErrForm)
		}
	}
	for _, s := range []term.Term{"pi\x03g", "si\x03gg", "hi\x03", "e\x02gi\x03", "hxi\x03g", "pxi\x03gg", "xi\x03", "xi\x03gg", "xi\x03q", "xi\x00g", "xi\x09g", "xi\x03" + hashes(400), "xi\x03" + wide(19998), "Xi\x03g"} {
		for _, p := range []int{3, 2, 0, 9, math.MinInt} {
			checkSigned(t, s, p, "", api.ErrForm)
		}
	}
}

// P3: what was put together is taken apart as it was.
func TestPutAndTaken(t *testing.T) {
	r := rand.New(rand.NewSource(7))
	for range 2000 {
		a, b, c, p := some(r, 5), some(r, 5), some(r, 5), 1+r.Intn(8)
		checkOpen(t, must(term.Seal(a, b, c)), a, b, c, api.OK)
		checkSigned(t, must(term.Sign(must(term.Private(p)), a)), p, a, api.OK)
		if l := parts.Of(must(term.Pair(a, b))); len(l) != 2 || l[0] != a || l[1] != b {
			t.Fatalf("pair of %q and %q: %q", a, b, l)
		}
		if l := parts.Of(must(term.Hash(a))); len(l) != 1 || l[0] != a {
			t.Fatalf("hash of %q: %q", a, l)
		}
		element := someElement(r, 4)
		if l := parts.Of(must(term.Key(element))); len(l) != 1 || l[0] != element {
			t.Fatalf("key of %q: %q", element, l)
		}
		low, high := min(a, b), max(a, b)
		if l := parts.Of(must(term.Power(must(term.Power(term.Gen(), high)), low))); len(l) != 2 || l[0] != low || l[1] != high {
			t.Fatalf("power of %q and %q: %q", a, b, l)
		}
	}
}

// together makes a term anew of what parts tells of it, however deep.
func together(t *testing.T, s term.Term) term.Term {
	var l []term.Term
	for _, part := range parts.Of(s) {
		l = append(l, together(t, part))
	}
	switch parts.Kind(s) {
	case 'n', 'u':
		n, ok := parts.Value(s)
		if !ok {
			t.Fatalf("%q has no value", s)
		}
		if parts.Kind(s) == 'n' {
			return term.Name(n)
		}
		return term.Number(n)
	case 't':
		said, ok := parts.Said(s)
		if !ok {
			t.Fatalf("%q says nothing", s)
		}
		return must(term.Text(said))
	case 'e':
		power := term.Gen()
		for i := range l { // from behind, so that each one goes ahead of the others
			power = must(term.Power(power, l[len(l)-1-i]))
		}
		return power
	case 'k':
		return must(term.Key(l[0]))
	case 'p':
		return must(term.Pair(l[0], l[1]))
	case 'h':
		return must(term.Hash(l[0]))
	case 's':
		return must(term.Seal(l[0], l[1], l[2]))
	case 'x':
		return must(term.Sign(l[0], l[1]))
	}
	return s // the generator and private keys have nothing to be taken out
}

// P3: put together again it is the same.
func TestPutAgain(t *testing.T) {
	r := rand.New(rand.NewSource(11))
	l := append(leaves(), hashes(400), wide(20000), "e\x02e\x01gg")
	for range 2000 {
		l = append(l, some(r, 7))
	}
	for _, s := range l {
		if got := together(t, s); got != s {
			t.Fatalf("%q is made again as %q", s, got)
		}
	}
}
