package know_test

import (
	"math/rand"
	"slices"
	"strings"
	"testing"

	"gemot/know"
	"gemot/term"
)

type question struct {
	l    row
	goal term.Term
	want bool
}

func checkDerives(t *testing.T, questions []question) {
	t.Helper()
	for i, q := range questions {
		for _, l := range turned(q.l) {
			if got := know.Derives(l, q.goal); got != q.want {
				t.Errorf("%d: %s of %s: %v", i, show(q.goal), show(l...), got)
			}
		}
	}
}

// K2: a term of each kind, of what is needed for it, and of less.
func TestDerivesKinds(t *testing.T) {
	checkDerives(t, []question{
		{nil, "g", true},
		{nil, term.Number(0), true},
		{nil, term.Number(1<<64 - 1), true},
		{nil, "t\x00\x00", true},
		{nil, must(term.Text(strings.Repeat("a", 100))), true},
		{nil, x, false},
		{row{y}, x, false},
		{row{term.Number(1)}, x, false},
		{row{x}, x, true},
		{nil, i1, false},
		{row{i2}, i1, false},
		{row{i1}, i1, true},
		{row{x}, "p" + x + y, false},
		{row{y}, "p" + x + y, false},
		{row{x, y}, "p" + x + y, true},
		{row{"p" + x + y}, "p" + x + y, true},
		{row{"p" + x + y}, "p" + y + x, false},
		{row{"p" + x + y}, x, false},
		{nil, "p" + u7 + ta, true},
		{nil, "hg", true},
		{nil, "h" + x, false},
		{row{x}, "h" + x, true},
		{row{"h" + x}, "h" + x, true},
		{row{"h" + x}, "hh" + x, true},
		{row{"hh" + x}, "h" + x, false},
		{row{"h" + x}, x, false},
		{nil, "kg", true},
		{row{x}, key(power(x)), true},
		{row{power(x)}, key(power(x)), true},
		{row{key(power(x))}, key(power(x)), true},
		{row{key(power(x))}, power(x), false},
		{row{key(power(y))}, key(power(x)), false},
		{row{x, y, z}, "s" + x + y + z, true},
		{row{y, z}, "s" + x + y + z, false},
		{row{x, z}, "s" + x + y + z, false},
		{row{x, y}, "s" + x + y + z, false},
		{row{"s" + x + y + z}, "s" + x + y + z, true},
		{row{"s" + x + y + z}, y, false},
		{row{"s" + x + y + z, x}, z, false},
		{row{"s" + x + y + z, x, y}, "s" + x + y + z, true},
		{row{"s" + x + y + z, x, y}, "s" + y + x + z, false},
		{nil, "sggg", true},
		{row{i1, x}, "x" + i1 + x, true},
		{row{i1}, "x" + i1 + x, false},
		{row{x}, "x" + i1 + x, false},
		{row{"x" + i1 + x}, "x" + i1 + x, true},
		{row{"x" + i1 + x}, x, false},
		{row{"x" + i1 + x}, i1, false},
		{row{"x" + i1 + x, y}, "x" + i1 + y, false},
		{row{x}, "x" + x + "g", true},
		{row{x, "h" + y, i1}, "sp" + x + "h" + y + u7 + "x" + i1 + ta, true},
		{row{x, "h" + z, i1}, "sp" + x + "h" + y + u7 + "x" + i1 + ta, false},
	})
}

// K2: powers, of an element that is known and of exponents that can be made.
func TestDerivesPowers(t *testing.T) {
	checkDerives(t, []question{
		{nil, power("g"), true},
		{nil, power(u7, ta, power(u7)), true},
		{nil, power(x), false},
		{row{x}, power(x), true},
		{row{x}, power(x, x, x), true},
		{row{x}, power(x, y), false},
		{row{"g", x}, power(x, y), false},
		{row{"g", x, y}, power(x, y), true},
		{row{power(x)}, power(x), true},
		{row{power(x)}, x, false},
		{row{power(x), y}, power(x, y), true},
		{row{power(x), y}, power(x, y, y, y), true},
		{row{power(x), y}, power(x, x, y), false},
		{row{power(x), y}, power(x, x), false},
		{row{power(x), x}, power(x, x), true},
		{row{power(x), power(y)}, power(x, y), false},
		{row{power(x), power(y), x}, power(x, y), true},
		{row{power(x), power(y), power(x, z), y}, power(x, y, z), true},
		{row{power(x), power(y), power(x, z), w}, power(x, y, z), false},
		{row{power(x, x), y}, power(x, x, y), true},
		{row{power(x, x), y}, power(x, y), false},
		{row{power(x, x), y}, power(x, x, x, y), false},
		{row{power(x, x), y}, power(x, x, x, x, y), false},
		{row{power(x, y), z}, power(x, z), false},
		{row{power(x, y), x, z}, power(x, z), true},
		{row{power(x, y), z}, power(x, y, z), true},
		{row{power(x, z), y}, power(x, y, z), true},
		{row{power(y, z), x}, power(x, y, z), true},
		{row{power(x, y), power(y, z), power(x, z)}, power(x, y, z), false},
		{row{power(x, y, z)}, power(x, y), false},
		{row{power(x, y, z), z}, power(x, y), false},
		{row{power(x, y, z), x, y}, power(x, y), true},
		{row{power(x)}, power(x, "g", u7), true},
		{row{power(x, u7)}, power(x, u7, u7), true},
		// an exponent of the base may be one that can be made: then it must be there all the same
		{row{power(x, y), y}, power(x, y), true},
		{row{power(x, y), y}, power(x, y, y), true},
		{row{power(x, y), y}, power(x), false},
		{row{power(x, u7)}, power(x), false},
		{row{power(x, "g")}, power(x, u7), false},
		{row{power(x, "g"), power(x, ta)}, power(x, ta, u7), true},
		// an exponent that has to be made itself
		{row{power(x), y}, power(x, "h"+y), true},
		{row{power(x), "h" + y}, power(x, y), false},
		{row{power(x), y}, power(x, key(power(y))), true},
		{row{power(x), power(y)}, power(x, key(power(y))), true},
		{row{power(x), key(power(y))}, power(x, key(power(y))), true},
		{row{power(x), key(power(y))}, power(x, power(y)), false},
		{row{power(x), power(y), z}, power(x, power(y, z)), true},
		{row{power(x), power(y), z}, key(power(x, key(power(y, key(power(z, z)))))), true},
		{row{power(x), power(y), w}, key(power(x, key(power(y, key(power(z, z)))))), false},
		// nothing that is no power stands in for one
		{row{key(power(x)), y}, power(x, y), false},
		{row{"h" + power(x), y}, power(x, y), false},
		{row{"p" + power(x) + "g", y}, power(x, y), false},
		{row{"kg", "hg"}, power(x), false},
	})
}

// K2: a power of as many exponents as there may be; each subset of them known as one power, the others alone.
func TestDerivesManyPowers(t *testing.T) {
	var all row
	for i := range uint64(32) {
		all = append(all, term.Name(i))
	}
	goal := power(all...)
	for i := range all {
		without := slices.Delete(slices.Clone(all), i, i+1)
		checkDerives(t, []question{
			{row{power(without...), all[i]}, goal, true},
			{row{power(without...), all[(i+1)%32]}, goal, false},
			{row{power(without...)}, goal, false},
			{append(slices.Clone(without), power(all[i])), goal, true},
			{append(slices.Clone(without), power(all[i], all[i])), goal, false},
			{append(slices.Clone(without), power(all[i], all[(i+1)%32])), goal, true},
			{append(slices.Clone(without), power(append(slices.Clone(all[1:]), all[i])...)), goal, i == 0},
			{without, goal, false},
		})
	}
	checkDerives(t, []question{{all, goal, true}, {row{power(all[:31]...), all[31]}, power(append(slices.Clone(all[:31]), all[30])...), false}})
}

// K2: what is not right is not made, and nothing is made of it.
func TestDerivesWrong(t *testing.T) {
	for _, wrong := range wrongs() {
		for _, l := range []row{nil, {wrong}, {wrong, "g", x, y}, {wrong, "p" + wrong + wrong, "h" + wrong, "e\x01" + wrong}} {
			if know.Derives(l, wrong) || know.Derivable(l, wrong) {
				t.Errorf("%s was made", show(wrong))
			}
		}
		for _, goal := range (row{x, i1, "p" + x + x, power(x), power(x, y), key(power(x, y)), "h" + x}) {
			if know.Derives(row{wrong}, goal) || know.Derivable(row{wrong}, goal) || know.Derivable(row{wrong, y}, goal) {
				t.Errorf("%s was made of %s", show(goal), show(wrong))
			}
		}
	}
	// powers that are not as they must be are no elements
	checkDerives(t, []question{
		{row{"e\x02" + y + x}, power(x, y), false},
		{row{"e\x02" + y + x, z}, power(x, y, z), false},
		{row{"e\x01" + x + y, z}, power(x, z), false},
		{row{"e\x01" + x + "g", y}, power(x, y), false},
		{row{"e\x02" + x, y}, power(x, y), false},
		{row{"e\x03" + x + y, z}, power(x, y, z), false},
		{append(wrongs(), x), "h" + x, true},
	})
	for _, l := range []row{nil, wrongs()} {
		if !know.Derives(l, "g") || !know.Derivable(l, "g") {
			t.Error("g")
		}
	}
}

// K2: as deep, and as long, as terms are.
func TestDerivesBounds(t *testing.T) {
	behind := term.Term(strings.Repeat("h", 391))
	nest := x
	for range 199 {
		nest = key(power(nest))
	}
	comb := term.Term(strings.Repeat("p"+string(ta), 399)) + x
	checkDerives(t, []question{
		{nil, hashes(400), true},
		{row{hashes(400)}, "h" + hashes(400), false},
		{row{"h" + hashes(400)}, "h" + hashes(400), false},
		{nil, wide(20000), true},
		{nil, wide(20001), false},
		{row{wide(20001)}, wide(20001), false},
		{row{wide(20000)}, "h" + wide(20000), false},
		{row{x}, behind + x, true},
		{row{y}, behind + x, false},
		{row{"h" + x}, behind + x, true},
		{row{x}, nest, true},
		{row{y}, nest, false},
		{row{power(x)}, nest, true},
		{row{x}, comb, true},
		{row{y}, comb, false},
		{row{"p" + ta + x}, comb, true},
	})
	big := wide(9000)
	checkDerives(t, []question{{row{power("p" + x + big), y}, power("p"+x+big, y), true}, {row{power("p" + x + big), z}, power("p"+x+big, y), false}})
}

// K2: of long rows.
func TestDerivesLongRows(t *testing.T) {
	var l row
	for i := range uint64(20000) {
		l = append(l, power(x, term.Name(100+i)), "h"+term.Name(100+i))
	}
	for _, q := range []question{
		{l, power(x, term.Name(19000), u7), true},
		{l, power(x, term.Name(19000), term.Name(19001)), false},
		{append(slices.Clone(l), term.Name(19001)), power(x, term.Name(19000), term.Name(19001)), true},
		{l, "h" + term.Name(20099), true},
		{l, "h" + term.Name(20100), false},
	} {
		if know.Derives(q.l, q.goal) != q.want || know.Derivable(q.l, q.goal) != q.want {
			t.Errorf("%s: not %v", show(q.goal), q.want)
		}
	}
}

// goals are terms to ask for: by chance, out of what is handed in, and made of it.
func goals(r *rand.Rand, l row) row {
	asked := row{some(r, 1), some(r, 2), some(r, 3), some(r, 4)}
	there := append(row{"g"}, l...)
	for i := 0; i < len(there); i++ {
		there = append(there, inside(there[i])...)
	}
	pick := func() term.Term { return there[r.Intn(len(there))] }
	for range 3 {
		asked = append(asked, pick(), power(pick(), pick(), pick()), "p"+pick()+pick(), "s"+pick()+pick()+"h"+pick())
		element := pick()
		for element[0] != 'g' && element[0] != 'e' {
			element = pick()
		}
		asked = append(asked, key(element), key(must(term.Power(element, pick()))))
	}
	return asked
}

// K2: against the words, said a second time.
func TestDerivesSome(t *testing.T) {
	r := rand.New(rand.NewSource(7))
	told := map[bool]int{}
	for range 2500 {
		l := someRow(r, 7, 4)
		closed := closure(l)
		for _, goal := range goals(r, l) {
			stands, open := canMake(rightOf(l), goal), canMake(closed, goal)
			if know.Derives(l, goal) != stands {
				t.Fatalf("Derives: %s of %s: not %v", show(goal), show(l...), stands)
			}
			if know.Derives(closed, goal) != open || know.Derivable(l, goal) != open {
				t.Fatalf("Derivable: %s of %s: not %v", show(goal), show(l...), open)
			}
			told[open]++
		}
	}
	if told[true] < 10000 || told[false] < 10000 {
		t.Error("asked in vain:", told)
	}
}

// K2 (P3, P4): what is handed in stays, what lies behind its end is not seen, and nothing is kept.
func TestDerivesLeavesAlone(t *testing.T) {
	behind := row{"p" + y + z, power(x), w, x, i1}
	before := slices.Clone(behind)
	for range 3 {
		for _, q := range []question{{behind[:3], x, false}, {behind[:3], power(x, w), true}, {behind[:2], power(x, w), false}, {behind[:3], y, false}, {behind, i1, true}} {
			if know.Derives(q.l, q.goal) != q.want {
				t.Errorf("Derives %s", show(q.goal))
			}
		}
		if know.Derivable(behind[:3], x) || !know.Derivable(behind[:3], y) || know.Derivable(nil, y) {
			t.Error("Derivable")
		}
	}
	if !slices.Equal(behind, before) {
		t.Error("changed:", show(behind...))
	}
}
