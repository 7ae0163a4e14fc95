package parts_test

import (
	"math"
	"math/rand"
	"slices"
	"strings"
	"testing"

	"gemot/parts"
	"gemot/term"
)

// P1: the kind of each right term, the greatest and the deepest ones too.
func TestKind(t *testing.T) {
	for s, want := range map[term.Term]byte{
		term.Name(0): 'n', term.Number(0): 'u', "t\x00\x00": 't', "i\x05": 'i', "g": 'g', "e\x01g": 'e', "kg": 'k', "pgg": 'p', "hg": 'h', "sggg": 's', "xgg": 'x',
		hashes(400): 'h', wide(20000): 'p', term.Term("t\x00\x64" + strings.Repeat("\xff", 100)): 't', "e\x20" + term.Term(strings.Repeat("g", 32)): 'e',
	} {
		if got := parts.Kind(s); got != want {
			t.Errorf("%s: %q, want %q", short(s), got, want)
		}
	}
}

// P1: of what is no right term nothing is told.
func TestOfWrong(t *testing.T) {
	for _, s := range wrongs() {
		if term.Right(s) {
			t.Fatalf("%s is right", short(s))
		}
		if kind, of, all := parts.Kind(s), parts.Of(s), parts.All(s); kind != 0 || len(of) != 0 || len(all) != 0 {
			t.Errorf("%s: %q, %d parts, %d in all", short(s), kind, len(of), len(all))
		}
		if n, ok := parts.Value(s); n != 0 || ok {
			t.Errorf("%s: value %d", short(s), n)
		}
		if said, ok := parts.Said(s); said != "" || ok {
			t.Errorf("%s: says %q", short(s), said)
		}
	}
}

// P1: parts are told in order, those next to the term alone, alike ones as often as they stand there.
func TestOf(t *testing.T) {
	n, u := term.Name(5), term.Number(5)
	deep, big := hashes(399), wide(19999)
	for i, c := range []struct {
		t    term.Term
		want []term.Term
	}{
		{"pghg", []term.Term{"g", "hg"}}, // the chapter's example
		{"phgg", []term.Term{"hg", "g"}},
		{"pgg", []term.Term{"g", "g"}},
		{"p" + n + u, []term.Term{n, u}},
		{"pppggpggpgg", []term.Term{"ppggpgg", "pgg"}},
		{"h" + n, []term.Term{n}},
		{"hhhg", []term.Term{"hhg"}},
		{"kg", []term.Term{"g"}},
		{"ke\x02g" + n, []term.Term{"e\x02g" + n}},
		{"s" + u + n + "hg", []term.Term{u, n, "hg"}},
		{"sggg", []term.Term{"g", "g", "g"}},
		{"xi\x08t\x00\x03pgg", []term.Term{"i\x08", "t\x00\x03pgg"}},
		{"xgi\x01", []term.Term{"g", "i\x01"}},
		{"e\x01" + n, []term.Term{n}},
		{"e\x03gg" + n, []term.Term{"g", "g", n}},
		{"e\x02e\x01gg", []term.Term{"e\x01g", "g"}},
		{"e\x03e\x02gghgi\x01", []term.Term{"e\x02gg", "hg", "i\x01"}},
		{"e\x20" + term.Term(strings.Repeat("g", 32)), slices.Repeat([]term.Term{"g"}, 32)},
		{"h" + deep, []term.Term{deep}},
		{"h" + big, []term.Term{big}},
		{"p" + wide(9999) + wide(10000), []term.Term{wide(9999), wide(10000)}},
	} {
		if got := parts.Of(c.t); !slices.Equal(got, c.want) {
			t.Errorf("%d: Of(%s) tells %q", i, short(c.t), got)
		}
	}
	for _, s := range leaves() {
		if got := parts.Of(s); len(got) != 0 {
			t.Errorf("Of(%q) tells %q", s, got)
		}
	}
}

// P1: all that stands in a term, and itself, each once, by bytes.
func TestAll(t *testing.T) {
	one, two, high := term.Name(1), term.Name(2), term.Name(math.MaxUint64)
	for i, c := range []struct {
		t    term.Term
		want []term.Term
	}{
		{"pgg", []term.Term{"g", "pgg"}},
		{"ppggpgg", []term.Term{"g", "pgg", "ppggpgg"}},
		{"phgg", []term.Term{"g", "hg", "phgg"}},
		{"hhhg", []term.Term{"g", "hg", "hhg", "hhhg"}},
		{"p" + high + "p" + one + high, []term.Term{one, high, "p" + one + high, "p" + high + "p" + one + high}},
		{"e\x02" + one + two, []term.Term{"e\x02" + one + two, one, two}}, // not the powers of one of them
		{"ke\x01" + one, []term.Term{"e\x01" + one, "ke\x01" + one, one}},
		{"kg", []term.Term{"g", "kg"}},
		{"sxi\x02gt\x00\x01gu\x00\x00\x00\x00\x00\x00\x00\x00", []term.Term{"g", "i\x02", "sxi\x02gt\x00\x01gu\x00\x00\x00\x00\x00\x00\x00\x00", "t\x00\x01g", "u\x00\x00\x00\x00\x00\x00\x00\x00", "xi\x02g"}},
		{"xi\x01sggg", []term.Term{"g", "i\x01", "sggg", "xi\x01sggg"}},
	} {
		if got := parts.All(c.t); !slices.Equal(got, c.want) {
			t.Errorf("%d: All(%q) tells %q", i, c.t, got)
		}
	}
	for _, s := range leaves() {
		if got := parts.All(s); len(got) != 1 || got[0] != s {
			t.Errorf("All(%q) tells %q", s, got)
		}
	}
}

// P1: as deep and as long as a right term may be.
func TestAllAtTheBounds(t *testing.T) {
	if l := parts.All(hashes(400)); len(l) != 400 || l[0] != "g" || l[399] != hashes(400) {
		t.Error(len(l))
	}
	var full strings.Builder // pairs of pairs of g, to 2 to the 13 of these, behind as many h as there is room for
	full.WriteString(strings.Repeat("h", 386))
	var pairs func(n int)
	pairs = func(n int) {
		if n == 0 {
			full.WriteString("g")
			return
		}
		full.WriteString("p")
		pairs(n - 1)
		pairs(n - 1)
	}
	pairs(13)
	if l := parts.All(term.Term(full.String())); len(l) != 1+13+386 {
		t.Error(len(l))
	}
	checkApart(t, wide(20000))
	checkApart(t, term.Term(strings.Repeat("pg", 399)+"g"))
	checkApart(t, term.Term(strings.Repeat("p", 399)+strings.Repeat("g", 400)))
	checkApart(t, term.Term(strings.Repeat("ke\x01", 199)+"kg"))
	checkApart(t, term.Term(strings.Repeat("h", 399)+"kg"))
	checkApart(t, term.Term(strings.Repeat("h", 398)+"kg"))
	checkApart(t, term.Term(strings.Repeat("e\x02gh", 199)+"g"))
}

// P1: all short texts of bytes that terms are made of, right and wrong.
func TestApartAll(t *testing.T) {
	texts("ghpkesxi\x00\x01\x02t", 5, func(s term.Term) { checkApart(t, s) })
	texts("gpsx", 8, func(s term.Term) { checkApart(t, s) })
}

// P1: greater ones, and these with a byte turned, lost or doubled.
func TestApartSome(t *testing.T) {
	r := rand.New(rand.NewSource(5))
	for range 2000 {
		s := some(r, 6)
		checkApart(t, s)
		for range 5 {
			i := r.Intn(len(s))
			turned := term.Term([]byte{"ghpkesxintu\x00\x01\x02\x08\x20\x21\xff"[r.Intn(18)]})
			checkApart(t, s[:i]+turned+s[i+1:])
			checkApart(t, s[:i]+s[i+1:])
			checkApart(t, s[:i]+s[i:i+1]+s[i:])
		}
	}
}

// P1: the number of a name or a number, each of its eight bytes.
func TestValue(t *testing.T) {
	for _, n := range []uint64{0, 1, 127, 128, 255, 256, 258, 1 << 31, 1<<32 - 1, 1 << 32, 1<<63 - 1, 1 << 63, math.MaxUint64, 0x0123456789abcdef, 0xfedcba9876543210} {
		for _, s := range []term.Term{term.Name(n), term.Number(n)} {
			if got, ok := parts.Value(s); got != n || !ok {
				t.Errorf("%q: %d %v, want %d", s, got, ok, n)
			}
		}
	}
	word := term.Number(258)
	for _, s := range []term.Term{"g", "t\x00\x00", "t\x00\x06\x00\x00\x00\x00\x00\x01", "t\x00\x09" + word, "i\x02", "h" + word, "p" + word + word, "e\x01" + word, "ke\x01" + word, "s" + word + word + word, "x" + word + word} {
		if n, ok := parts.Value(s); n != 0 || ok {
			t.Errorf("%q: %d %v", s, n, ok)
		}
	}
}

// P1: the text of a text, of 0 to 100 bytes, whatever they are.
func TestSaid(t *testing.T) {
	for size := range 101 {
		for _, b := range []string{"\x00", "g", "\xff"} {
			s := strings.Repeat(b, size)
			if got, ok := parts.Said(must(term.Text(s))); got != s || !ok {
				t.Errorf("%d of %q: %q %v", size, b, got, ok)
			}
		}
	}
	text := term.Term("t\x00\x02ab")
	for _, s := range []term.Term{"g", term.Name(1), term.Number(1), "i\x02", "h" + text, "p" + text + text, "e\x01" + text, "ke\x01" + text, "s" + text + text + text, "x" + text + text} {
		if said, ok := parts.Said(s); said != "" || ok {
			t.Errorf("%q: %q %v", s, said, ok)
		}
	}
}

// The rules that hold everywhere (P3, P4): lists are new, and the same is told each time.
func TestListsAreNew(t *testing.T) {
	s := term.Term("pshggghhg")
	for _, call := range []func(term.Term) []term.Term{parts.Of, parts.All} {
		first := call(s)
		kept := slices.Clone(first)
		for i := range first {
			first[i] = "q"
		}
		if again := call(s); !slices.Equal(again, kept) {
			t.Errorf("%q, then %q", kept, again)
		}
	}
}
