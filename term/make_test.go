package term_test

import (
	"math"
	"math/rand"
	"strings"
	"testing"

	"gemot/api"
	"gemot/term"
)

// T1: names, numbers and the generator.
func TestWords(t *testing.T) {
	const bytes = "\x01\x23\x45\x67\x89\xab\xcd\xef"
	for n, want := range map[uint64]term.Term{
		0:                  "\x00\x00\x00\x00\x00\x00\x00\x00",
		1:                  "\x00\x00\x00\x00\x00\x00\x00\x01",
		256:                "\x00\x00\x00\x00\x00\x00\x01\x00",
		0x0123456789abcdef: bytes,
		math.MaxUint64:     "\xff\xff\xff\xff\xff\xff\xff\xff",
	} {
		if term.Name(n) != "n"+want || term.Number(n) != "u"+want {
			t.Errorf("%d: %q %q", n, term.Name(n), term.Number(n))
		}
		if !term.Right(term.Name(n)) || term.Depth(term.Number(n)) != 1 {
			t.Errorf("%d is not right", n)
		}
	}
	if term.Gen() != "g" || term.Depth(term.Gen()) != 1 {
		t.Errorf("%q", term.Gen())
	}
}

// T1: Text, up to 100 bytes, whatever they are.
func TestText(t *testing.T) {
	for size := range 101 {
		s := strings.Repeat("\xff", size)
		a, e := term.Text(s)
		made(t, "Text", a, e, term.Term("t\x00"+string([]byte{byte(size)})+s), api.OK)
		if term.Depth(a) != 1 {
			t.Errorf("text of %d bytes: depth %d", size, term.Depth(a))
		}
	}
	for _, size := range []int{101, 255, 256, 257, 356, 65536, 65537, 1 << 20} {
		a, e := term.Text(strings.Repeat("x", size))
		made(t, "Text, long", a, e, "", api.ErrLong)
	}
	a, e := term.Text("a\x00g")
	made(t, "Text", a, e, "t\x00\x03a\x00g", api.OK)
}

// T1: Private, 1 to 8; numbers that are those but for their higher bytes are others.
func TestPrivate(t *testing.T) {
	for p := 1; p <= 8; p++ {
		a, e := term.Private(p)
		made(t, "Private", a, e, term.Term([]byte{'i', byte(p)}), api.OK)
		if term.Depth(a) != 1 {
			t.Errorf("private of %d: depth %d", p, term.Depth(a))
		}
	}
	for _, p := range []int{0, 9, -1, -8, 255, 256, 257, 264, 1<<32 + 1, math.MaxInt, math.MinInt, math.MinInt + 1} {
		a, e := term.Private(p)
		made(t, "Private, wrong", a, e, "", api.ErrArg)
	}
}

// T1: what is made of parts stands as the words say, in their order.
func TestParts(t *testing.T) {
	n, p := term.Name(7), term.Term("i\x03")
	a, e := term.Pair(n, "g")
	made(t, "Pair", a, e, "p"+n+"g", api.OK)
	a, e = term.Pair("g", n)
	made(t, "Pair", a, e, "pg"+n, api.OK)
	a, e = term.Hash(n)
	made(t, "Hash", a, e, "h"+n, api.OK)
	a, e = term.Seal(n, p, "g")
	made(t, "Seal", a, e, "s"+n+p+"g", api.OK)
	a, e = term.Sign(p, n)
	made(t, "Sign", a, e, "x"+p+n, api.OK)
	a, e = term.Key("g")
	made(t, "Key", a, e, "kg", api.OK)
	a, e = term.Key("e\x01" + n)
	made(t, "Key", a, e, "ke\x01"+n, api.OK)
}

// T1: exponents lie by bytes, alike ones beside one another.
func TestPower(t *testing.T) {
	ok := must(t)
	one, two := term.Name(1), term.Name(2)
	a, e := term.Power(ok(term.Power(term.Gen(), two)), one)
	made(t, "the example", a, e, "e\x02"+one+two, api.OK)
	a, e = term.Power(a, two)
	made(t, "alike, last", a, e, "e\x03"+one+two+two, api.OK)
	a, e = term.Power(a, one)
	made(t, "alike, first", a, e, "e\x04"+one+one+two+two, api.OK)
	a, e = term.Power(a, "g")
	made(t, "least", a, e, "e\x05g"+one+one+two+two, api.OK)
	a, e = term.Power("e\x01g", "e\x01g")
	made(t, "a power in a power", a, e, "e\x02e\x01gg", api.OK)
	a, e = term.Power("g", "g")
	made(t, "g by g", a, e, "e\x01g", api.OK)
	high, low := term.Name(math.MaxUint64), term.Name(1<<63-1)
	a, e = term.Power(ok(term.Power("g", high)), low)
	made(t, "bytes above 127", a, e, "e\x02"+low+high, api.OK)
}

// T1: a power has at most 32 exponents; a wrong part is told ahead of that.
func TestPowerOf32(t *testing.T) {
	ok := must(t)
	a := term.Gen()
	for i := range term.MaxPowers {
		a = ok(term.Power(a, term.Name(uint64(i%5))))
		if int(a[1]) != i+1 || len(a) != 2+9*(i+1) || term.Depth(a) != 2 {
			t.Fatalf("%d: %q", i, a)
		}
	}
	if term.MaxPowers != 32 || a[1] != 32 {
		t.Errorf("%d", a[1])
	}
	b, e := term.Power(a, "g")
	made(t, "one more", b, e, "", api.ErrLong)
	b, e = term.Power(a, "q")
	made(t, "one more, wrong", b, e, "", api.ErrArg)
	b, e = term.Power(a, hashes(400))
	made(t, "one more, deep", b, e, "", api.ErrLong)
	b, e = term.Power("g", a)
	made(t, "as an exponent", b, e, "e\x01"+a, api.OK)
}

// T1: ErrArg, if a part is not right, whichever it is, and however it is wrong.
func TestWrongParts(t *testing.T) {
	wrong := []term.Term{"", "q", "gg", "h", "pg", "e\x00", "e\x21" + term.Term(strings.Repeat("g", 33)), "e\x02hgg", "i\x00", "i\x09", "i", "n", "kn", "ki\x01", "t\x00\x01", "t\x00\x65" + term.Term(strings.Repeat("x", 101)), term.Name(1)[:8], term.Name(1) + "g", hashes(401), "p" + wide(10000) + wide(10000), "e\x01", "e\x01gg", "G"}
	for _, w := range wrong {
		for what, call := range map[string]func() (term.Term, api.Errno){
			"Power, base":  func() (term.Term, api.Errno) { return term.Power(w, "g") },
			"Power, by":    func() (term.Term, api.Errno) { return term.Power("g", w) },
			"Key":          func() (term.Term, api.Errno) { return term.Key(w) },
			"Pair, first":  func() (term.Term, api.Errno) { return term.Pair(w, "g") },
			"Pair, second": func() (term.Term, api.Errno) { return term.Pair("g", w) },
			"Hash":         func() (term.Term, api.Errno) { return term.Hash(w) },
			"Seal, key":    func() (term.Term, api.Errno) { return term.Seal(w, "g", "g") },
			"Seal, nonce":  func() (term.Term, api.Errno) { return term.Seal("g", w, "g") },
			"Seal, text":   func() (term.Term, api.Errno) { return term.Seal("g", "g", w) },
			"Sign, key":    func() (term.Term, api.Errno) { return term.Sign(w, "g") },
			"Sign, text":   func() (term.Term, api.Errno) { return term.Sign("g", w) },
			"long, wrong":  func() (term.Term, api.Errno) { return term.Seal(wide(20000), hashes(400), w) },
			"parts that are whole together": func() (term.Term, api.Errno) {
				return term.Pair("h", "gg")
			},
		} {
			a, e := call()
			made(t, what+" "+short(string(w)), a, e, "", api.ErrArg)
		}
	}
}

// T1: elements are the generator and powers, and nothing else.
func TestElements(t *testing.T) {
	for _, w := range []term.Term{term.Name(1), term.Number(1), "t\x00\x00", "i\x01", "kg", "pgg", "hg", "sggg", "xgg"} {
		a, e := term.Power(w, "g")
		made(t, "Power of "+string(w), a, e, "", api.ErrArg)
		a, e = term.Key(w)
		made(t, "Key of "+string(w), a, e, "", api.ErrArg)
		a, e = term.Power("g", w)
		made(t, "Power by "+string(w), a, e, "e\x01"+w, api.OK)
	}
}

// makers are the calls that make a term with a in it, and how many bytes each adds.
func makers() map[string]struct {
	call func(a term.Term) (term.Term, api.Errno)
	adds int
} {
	type row = struct {
		call func(a term.Term) (term.Term, api.Errno)
		adds int
	}
	return map[string]row{
		"Power, by":    {func(a term.Term) (term.Term, api.Errno) { return term.Power("g", a) }, 2},
		"Power, base":  {func(a term.Term) (term.Term, api.Errno) { return term.Power(a, "g") }, 1},
		"Key":          {term.Key, 1},
		"Hash":         {term.Hash, 1},
		"Pair, first":  {func(a term.Term) (term.Term, api.Errno) { return term.Pair(a, "g") }, 2},
		"Pair, second": {func(a term.Term) (term.Term, api.Errno) { return term.Pair("g", a) }, 2},
		"Seal, key":    {func(a term.Term) (term.Term, api.Errno) { return term.Seal(a, "g", "g") }, 3},
		"Seal, nonce":  {func(a term.Term) (term.Term, api.Errno) { return term.Seal("g", a, "g") }, 3},
		"Seal, text":   {func(a term.Term) (term.Term, api.Errno) { return term.Seal("g", "g", a) }, 3},
		"Sign, key":    {func(a term.Term) (term.Term, api.Errno) { return term.Sign(a, "g") }, 2},
		"Sign, text":   {func(a term.Term) (term.Term, api.Errno) { return term.Sign("g", a) }, 2},
	}
}

// T1: 20000 bytes, and no more.
func TestLong(t *testing.T) {
	for what, m := range makers() {
		a, e := m.call(element(20000 - m.adds))
		if e != api.OK || len(a) != 20000 || !term.Right(a) {
			t.Errorf("%s: 20000 bytes: %d, error %d", what, len(a), e)
		}
		a, e = m.call(element(20001 - m.adds))
		made(t, what+" of 20001", a, e, "", api.ErrLong)
		a, e = m.call(element(20000))
		made(t, what+" of the longest", a, e, "", api.ErrLong)
		a, e = m.call(element(20001))
		made(t, what+" of one too long", a, e, "", api.ErrArg)
	}
	a, e := term.Seal(wide(6667), wide(6666), wide(6666))
	if e != api.OK || len(a) != 20000 {
		t.Error(len(a), e)
	}
	a, e = term.Seal(wide(6667), wide(6667), wide(6666))
	made(t, "all three", a, e, "", api.ErrLong)
}

// T1: depth 400, and no more; what is too long is told ahead of it.
func TestDeep(t *testing.T) {
	for what, m := range makers() {
		if what == "Power, base" {
			continue // the power that is made is as deep as its base: see below
		}
		for deep, want := range map[int]api.Errno{398: 0, 399: 0, 400: api.ErrDeep} {
			in := "e\x01" + hashes(deep-1)
			a, e := m.call(in)
			if e != want || (e == api.OK) != (a != "") || e == api.OK && term.Depth(a) != deep+1 {
				t.Errorf("%s at %d: depth %d, error %d", what, deep, term.Depth(a), e)
			}
		}
		long := term.Term("e\x02" + string(hashes(399)) + string(wide(19595)))
		if term.Depth(long) != 400 || len(long) != 19996 {
			t.Fatal(term.Depth(long), len(long))
		}
		a, e := m.call(long)
		made(t, what+" at 400, not long", a, e, "", api.ErrDeep)
		long = term.Term("e\x02" + string(hashes(399)) + string(wide(19599)))
		a, e = m.call(long)
		made(t, what+" at 400, long too", a, e, "", api.ErrLong)
	}
	base := "e\x01" + hashes(399)
	a, e := term.Power(base, "g")
	made(t, "base of 400", a, e, "e\x02g"+hashes(399), api.OK)
	if term.Depth(a) != 400 {
		t.Error(term.Depth(a))
	}
	a, e = term.Power(base, hashes(400))
	made(t, "base of 400 by 400", a, e, "", api.ErrDeep)
}

// T1: each call's depth is one more than that of its deepest part.
func TestDepthOfMade(t *testing.T) {
	for _, c := range []struct {
		a    term.Term
		want int
	}{{"pghg", 3}, {"phgg", 3}, {"sgghhg", 4}, {"shhggg", 4}, {"sghhgg", 4}, {"xghg", 3}, {"xhgg", 3}, {"kg", 2}, {"ke\x01g", 3}, {"e\x02ghg", 3}, {"e\x02e\x01gg", 3}, {"hkg", 3}} {
		if d := term.Depth(c.a); d != c.want || !term.Right(c.a) {
			t.Errorf("%q: %d, want %d", c.a, d, c.want)
		}
	}
	r := rand.New(rand.NewSource(11))
	for range 500 {
		a, b := some(r, 6), some(r, 6)
		c, e := term.Pair(a, b)
		if e == api.OK && term.Depth(c) != 1+max(term.Depth(a), term.Depth(b)) {
			t.Errorf("%q", c)
		}
	}
}
