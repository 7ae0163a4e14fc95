package know_test

import (
	"math/rand"
	"slices"
	"strings"
	"testing"

	"gemot/know"
	"gemot/term"
)

// K1: what is taken out of a term of each kind, and what is not.
func TestCloseKinds(t *testing.T) {
	for _, c := range []struct{ l, more row }{
		{nil, nil},
		{row{}, nil},
		{row{"g"}, nil},
		{row{x}, nil},
		{row{u7}, nil},
		{row{ta}, nil},
		{row{i1}, nil},
		{row{"p" + x + y}, row{x, y}},
		{row{"p" + x + x}, row{x}},
		{row{"pp" + x + y + z}, row{"p" + x + y, x, y, z}},
		{row{"p" + x + "p" + y + z}, row{"p" + y + z, x, y, z}},
		{row{"h" + x}, nil},
		{row{"hp" + x + y}, nil},
		{row{"kg"}, nil},
		{row{key(power(x))}, nil},
		{row{power(x)}, nil},
		{row{power("p"+x+y, z)}, nil},
		{row{"x" + i1 + x}, row{x}},
		{row{"xp" + x + y + z}, row{z}},
		{row{"x" + i1 + "x" + i2 + "p" + x + y}, row{"x" + i2 + "p" + x + y, "p" + x + y, x, y}},
		{row{"s" + x + y + z}, row{y}},
		{row{"s" + x + "p" + y + z + w}, row{"p" + y + z, y, z}},
		{row{"sp" + x + y + z + w}, row{z}},
		{row{"phxg" + x + y}, row{"hxg" + x, y}},
	} {
		checkClose(t, c.l, append(slices.Clone(c.l), c.more...))
	}
}

// K1: a seal's text comes out just if its key can be made of what there is.
func TestCloseSeals(t *testing.T) {
	for _, c := range []struct{ l, more row }{
		{row{seal(x, y, z), x}, row{y, z}},
		{row{seal(x, y, z), y}, nil},
		{row{seal(x, y, z), z}, row{y}},
		{row{seal("g", y, z)}, row{y, z}},
		{row{seal(u7, y, z)}, row{y, z}},
		{row{seal(ta, y, z)}, row{y, z}},
		{row{seal("kg", y, z)}, row{y, z}},
		{row{seal(i1, y, z)}, row{y}},
		{row{seal(i1, y, z), i1}, row{y, z}},
		{row{seal(i1, y, z), i2}, row{y}},
		{row{seal("h"+x, y, z), x}, row{y, z}},
		{row{seal("h"+x, y, z), "h" + x}, row{y, z}},
		{row{seal(x, y, z), "h" + x}, row{y}},
		{row{seal("p"+x+w, y, z), x}, row{y}},
		{row{seal("p"+x+w, y, z), x, w}, row{y, z}},
		{row{seal("p"+x+w, y, z), "p" + x + w}, row{x, w, y, z}},
		{row{seal("p"+x+w, y, z), "p" + w + x}, row{x, w, y, z}},
		{row{seal(key(power(x, w)), y, z), power(x), w}, row{y, z}},
		{row{seal(key(power(x, w)), y, z), power(x), power(w)}, row{y}},
		{row{seal(key(power(x, w)), y, z), key(power(x, w))}, row{y, z}},
		{row{seal(key(power(x, w)), y, z), power(w, x)}, row{y, z}},
		{row{seal(key(power(x, w)), y, z), x, w}, row{y, z}},
		{row{seal("x"+i1+x, y, z), "x" + i1 + x}, row{x, y, z}},
		{row{seal("x"+i1+x, y, z), i1}, row{y}},
		{row{seal("x"+i1+x, y, z), i1, x}, row{y, z}},
		// a key that lies in the seal itself: as its nonce it is known, as its text it is not
		{row{seal(x, x, y)}, row{x, y}},
		{row{seal(x, y, x)}, row{y}},
		{row{seal(x, "h"+x, "p"+x+y)}, row{"h" + x}},
		{row{seal("h"+x, x, y)}, row{x, y}},
		{row{seal(seal(x, "g", y), "g", z), x}, row{"g"}},
		{row{seal(seal(x, "g", y), "g", z), x, y}, row{"g", z}},
		{row{seal(seal(x, "g", y), "g", z), seal(x, "g", y)}, row{"g", z}},
		// the key of each in the other one
		{row{seal(x, "g", y), seal(y, "g", x)}, row{"g"}},
		{row{seal(x, "g", y), seal(y, "g", x), y}, row{"g", x}},
		// seals with one key
		{row{seal(x, "g", y), seal(x, "g", z), seal(x, "g", w)}, row{"g"}},
		{row{seal(x, "g", y), x, seal(x, "g", z), seal(x, "g", w)}, row{"g", y, z, w}},
		{row{seal(x, "g", seal(x, "g", seal(x, "g", z))), x}, row{"g", seal(x, "g", seal(x, "g", z)), seal(x, "g", z), z}},
		{row{seal(x, y, seal(x, y, z))}, row{y}},
		// one key out of another seal, out of a pair, out of a signature
		{row{seal(x, "g", z), seal(y, "g", "p"+w+"x"+i1+x), y}, row{"g", "p" + w + "x" + i1 + x, w, "x" + i1 + x, x, z}},
		{row{seal(key(power(x, y)), "g", z), seal(w, "g", power(y)), x, w}, row{"g", power(y), z}},
		{row{seal(key(power(x, y)), "g", z), seal(w, "g", x), power(y), w}, row{"g", x, z}},
		{row{seal("p"+x+y, "g", z), seal(w, "g", x), seal(x, "g", y), w}, row{"g", x, y, z}},
	} {
		for _, l := range turned(c.l) {
			checkClose(t, l, append(slices.Clone(c.l), c.more...))
		}
	}
}

// turned is l in some other orders too, and with doubles.
func turned(l row) []row {
	back := slices.Clone(l)
	slices.Reverse(back)
	by := slices.Sorted(slices.Values(l))
	return []row{l, back, by, append(slices.Clone(l), back...), append(append(row{"q"}, by...), "")}
}

// K1: a power that comes late is found whichever exponents of the key it holds.
func TestCloseLatePower(t *testing.T) {
	exponents := row{x, y, z, w}
	lock := seal(key(power(exponents...)), u7, "h"+i1)
	for base := range 16 {
		for given := range 16 {
			l := row{lock, seal(i2, u7, ta), i2}
			var held row
			covered := 0
			for i, exponent := range exponents {
				if base>>i&1 == 1 {
					held = append(held, exponent)
					covered |= 1 << i
				}
				if given>>i&1 == 1 {
					l = append(l, seal(i2, u7, exponent))
					covered |= 1 << i
				}
			}
			l = append(l, seal(i2, u7, power(held...)))
			for _, turn := range turned(l) {
				if got := slices.Contains(know.Close(turn), "h"+i1); got != (covered == 15) {
					t.Fatalf("base %04b, given %04b: %v", base, given, got)
				}
			}
		}
	}
}

// K1: what is no right term adds nothing, nor what would stand in it.
func TestCloseWrong(t *testing.T) {
	checkClose(t, wrongs(), nil)
	checkClose(t, append(append(wrongs(), seal(x, "g", "p"+y+z), x), wrongs()...), row{seal(x, "g", "p"+y+z), x, "g", "p" + y + z, y, z})
}

// K1: seals that open one another, in a long row, from both ends on and all over.
func TestCloseLongChain(t *testing.T) {
	const many = 5000
	var l row
	for i := range uint64(many) {
		l = append(l, seal(term.Name(i), "g", term.Name(i+1)))
	}
	shuffled := slices.Clone(l)
	rand.New(rand.NewSource(1)).Shuffle(many, func(i, j int) { shuffled[i], shuffled[j] = shuffled[j], shuffled[i] })
	back := slices.Clone(l)
	slices.Reverse(back)
	for _, turn := range []row{l, back, shuffled} {
		checkClose(t, turn, append(row{"g"}, l...))
		for _, from := range []uint64{0, many / 2, many} {
			want := append(row{"g"}, l...)
			for i := from; i <= many; i++ {
				want = append(want, term.Name(i))
			}
			checkClose(t, append(slices.Clone(turn), term.Name(from)), want)
		}
	}
}

// K1: as deep, and as long, as terms are.
func TestCloseBounds(t *testing.T) {
	comb := term.Term(strings.Repeat("p"+string(ta), 399)) + x
	want := row{ta}
	for left := range 400 {
		want = append(want, comb[left*5:])
	}
	checkClose(t, row{comb}, want)

	nest := x
	for range 399 {
		nest = seal("g", "g", nest)
	}
	want = row{"g"}
	for left := range 400 {
		want = append(want, nest[left*3:])
	}
	checkClose(t, row{nest}, want)

	signed := term.Term(strings.Repeat("xi\x01", 399)) + x
	if got := know.Close(row{signed}); len(got) != 400 || !slices.Contains(got, x) {
		t.Error("signatures", len(got))
	}
	checkClose(t, row{"sg" + "g" + wide(19997)}, closure(row{wide(19997), "sgg" + wide(19997), "g"}))
	big := seal(wide(9990), x, "p"+y+z)
	checkClose(t, row{big}, row{big, x, "p" + y + z, y, z})
	names := term.Term(strings.Repeat("p"+string(x), 300)) + y
	checkClose(t, row{seal(names, "g", z), x}, row{seal(names, "g", z), x, "g"})
	checkClose(t, row{seal(names, "g", z), x, y}, row{seal(names, "g", z), x, y, "g", z})
}

// K1: against a second way to gather.
func TestCloseSome(t *testing.T) {
	r := rand.New(rand.NewSource(3))
	longer := 0
	for range 8000 {
		l := someRow(r, 8, 4)
		want := closure(l)
		checkClose(t, l, want)
		if len(want) > len(l) {
			longer++
		}
	}
	if longer < 4000 {
		t.Error("too few rows with something to take out:", longer)
	}
}

// K1 (P3, P4): what is handed in stays, the answer is new, and each time the same.
func TestCloseLeavesAlone(t *testing.T) {
	behind := row{"p" + y + z, "hg", x, "s" + x + "gp" + y + w, "xi\x01i\x02", i1, z}
	l := behind[:4]
	before := slices.Clone(behind)
	got := know.Close(l)
	kept := slices.Clone(got)
	if !slices.Equal(behind, before) || slices.Contains(got, i2) {
		t.Error("changed, or read behind the end", show(behind...), show(got...))
	}
	for i := range got {
		got[i] = "q"
	}
	_ = append(got, "q")
	if !slices.Equal(behind, before) || !slices.Equal(know.Close(l), kept) {
		t.Error("the answer is not new")
	}
	l[0] = "g"
	checkClose(t, before[:4], kept)
	for range 50 {
		checkClose(t, before[:4], kept)
	}
}
