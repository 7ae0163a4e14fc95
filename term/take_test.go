package term_test

import (
	"math/rand"
	"strings"
	"testing"

	"gemot/api"
	"gemot/term"
)

// took is a text, and what Take is to tell of it.
type took struct {
	s, a, rest string
	e          api.Errno
}

func checkTook(t *testing.T, l []took) {
	t.Helper()
	for i, c := range l {
		a, rest, e := term.Take(c.s)
		if string(a) != c.a || rest != c.rest || e != c.e {
			t.Errorf("%d: Take(%s) tells %s %s %d, want error %d", i, short(c.s), short(string(a)), short(rest), e, c.e)
		}
		whole := c.e == api.OK && c.rest == ""
		if term.Right(term.Term(c.s)) != whole || (term.Depth(term.Term(c.s)) > 0) != whole {
			t.Errorf("%d: %s: Right %v", i, short(c.s), !whole)
		}
	}
}

// T2: what is behind a term is told as it is.
func TestTakeRest(t *testing.T) {
	word := string(term.Name(5))
	hundred := "t\x00\x64" + strings.Repeat("y", 100)
	var l []took
	for _, a := range []string{"g", word, string(term.Number(5)), "t\x00\x00", "t\x00\x02g\x00", hundred, "i\x01", "i\x08", "e\x01g", "e\x02gg", "e\x02g" + word, "kg", "ke\x01g", "pgg", "hg", "sggg", "xgg", "e\x20" + strings.Repeat("g", 32), "x" + "i\x03" + "p" + word + hundred} {
		for _, rest := range []string{"", "g", "q", "\x00", a, strings.Repeat("z", 30000)} {
			l = append(l, took{a + rest, a, rest, api.OK})
		}
	}
	checkTook(t, l)
}

// T2: texts that are no terms.
func TestTakeWrong(t *testing.T) {
	word := string(term.Name(5))
	var l []took
	for _, s := range []string{
		"", " ", "G", "\x00", "\xff", " g", "q" + word,
		"i\x00", "i\x09", "i\xff", "i1",
		"t\x00\x65" + strings.Repeat("x", 101), "t\x00\xff" + strings.Repeat("x", 255), "t\x01\x00" + strings.Repeat("x", 256), "t\x01\x01" + strings.Repeat("x", 257), "t\xff\x00" + strings.Repeat("x", 65280),
		"e\x00", "e\x00g", "e\x21" + strings.Repeat("g", 33), "e\xff" + strings.Repeat("g", 255), "e1g",
		"kkg", "khg", "k" + word, "ki\x01", "kq", "kt\x00\x00",
		"pqg", "pgq", "hq", "sqgg", "sgqg", "sggq", "xqg", "xgq", "e\x01q", "ke\x01q",
	} {
		l = append(l, took{s, "", "", api.ErrForm})
	}
	checkTook(t, l)
}

// T2: terms cut short, at each place.
func TestTakeCut(t *testing.T) {
	word, many := string(term.Name(5)), "t\x00\x64"+strings.Repeat("y", 100)
	var l []took
	for _, s := range []string{word, string(term.Number(1 << 60)), many, "t\x00\x00", "i\x04", "e\x03g" + word + word, "ke\x02gg", "p" + word + many, "hhhg", "s" + word + "gg", "xi\x02" + many, "e\x20" + strings.Repeat("g", 32)} {
		for i := range len(s) {
			l = append(l, took{s[:i], "", "", api.ErrForm})
		}
	}
	checkTook(t, l)
}

// T2: exponents out of order are told when the lesser one ends, and not ahead of that.
func TestTakeOrder(t *testing.T) {
	one, two := string(term.Name(1)), string(term.Name(2))
	deep := strings.Repeat("h", 399)
	checkTook(t, []took{
		{"e\x02" + one + two, "e\x02" + one + two, "", api.OK},
		{"e\x02" + two + one, "", "", api.ErrForm},
		{"e\x02" + one + one, "e\x02" + one + one, "", api.OK},
		{"e\x03" + one + two + one, "", "", api.ErrForm},
		{"e\x03" + two + two + one, "", "", api.ErrForm},
		{"e\x02hgg", "", "", api.ErrForm},
		{"e\x02n\x80" + two[2:] + "n\x7f" + two[2:], "", "", api.ErrForm},
		{"e\x02n\x7f" + two[2:] + "n\x80" + two[2:], "e\x02n\x7f" + two[2:] + "n\x80" + two[2:], "", api.OK},
		{"e\x02t\x00\x01zt\x00\x02aa", "e\x02t\x00\x01zt\x00\x02aa", "", api.OK},
		{"e\x02t\x00\x02aat\x00\x01z", "", "", api.ErrForm},
		{"p" + two + one, "p" + two + one, "", api.OK},
		{"s" + two + one + "g", "s" + two + one + "g", "", api.OK},
		{"x" + two + one, "x" + two + one, "", api.OK},
		{"he\x02hgg", "", "", api.ErrForm},
		{"e\x01e\x02hgg", "", "", api.ErrForm},
		// the lesser exponent goes too deep ahead of its end
		{"e\x02" + two + deep + "g", "", "", api.ErrDeep},
		{"e\x02u" + two[1:] + "p" + deep, "", "", api.ErrDeep},
		{"e\x02u" + two[1:] + "pg" + deep, "", "", api.ErrDeep},
		// it ends, and what goes too deep comes behind that
		{"e\x03" + two + one + deep + "g", "", "", api.ErrForm},
		{"pe\x02" + two + one + deep + "g", "", "", api.ErrForm},
	})
}

// T2: a term that would begin in 400 others is told as soon as it would; behind a k only an element would.
func TestTakeDeep(t *testing.T) {
	h := func(n int) string { return strings.Repeat("h", n) }
	checkTook(t, []took{
		{h(399) + "g", h(399) + "g", "", api.OK},
		{h(399) + "gg", h(399) + "g", "g", api.OK},
		{h(399), "", "", api.ErrForm},
		{h(399) + "q", "", "", api.ErrForm},
		{h(400), "", "", api.ErrDeep},
		{h(400) + "g", "", "", api.ErrDeep},
		{h(400) + "q", "", "", api.ErrDeep},
		{h(401) + "g", "", "", api.ErrDeep},
		{h(100000), "", "", api.ErrDeep},
		{h(399) + "p", "", "", api.ErrDeep},
		{h(399) + "s", "", "", api.ErrDeep},
		{h(399) + "x", "", "", api.ErrDeep},
		{h(399) + "t\x00", "", "", api.ErrForm},
		{h(399) + "i\x02", h(399) + "i\x02", "", api.OK},
		{h(399) + "e", "", "", api.ErrForm},
		{h(399) + "e\x00", "", "", api.ErrForm},
		{h(399) + "e\x21", "", "", api.ErrForm},
		{h(399) + "e\x01", "", "", api.ErrDeep},
		{h(399) + "e\x20q", "", "", api.ErrDeep},
		{h(398) + "e\x01g", h(398) + "e\x01g", "", api.OK},
		{h(399) + "k", "", "", api.ErrForm},
		{h(399) + "kn", "", "", api.ErrForm},
		{h(399) + "kk", "", "", api.ErrForm},
		{h(399) + "kg", "", "", api.ErrDeep},
		{h(399) + "ke", "", "", api.ErrDeep},
		{h(399) + "ke\x00", "", "", api.ErrDeep},
		{h(398) + "kg", h(398) + "kg", "", api.OK},
		{h(398) + "ke", "", "", api.ErrForm},
		{h(398) + "ke\x01", "", "", api.ErrDeep},
		{strings.Repeat("p", 399) + strings.Repeat("g", 400), strings.Repeat("p", 399) + strings.Repeat("g", 400), "", api.OK},
		{strings.Repeat("p", 400), "", "", api.ErrDeep},
		{strings.Repeat("pg", 399) + "g", strings.Repeat("pg", 399) + "g", "", api.OK},
		{strings.Repeat("pg", 400) + "g", "", "", api.ErrDeep},
		{strings.Repeat("ke\x01", 200), "", "", api.ErrDeep},
		{strings.Repeat("ke\x01", 199) + "kg", strings.Repeat("ke\x01", 199) + "kg", "", api.OK},
		// the fault that is met first is the one
		{"pq" + h(400), "", "", api.ErrForm},
		{"p" + h(400) + "q", "", "", api.ErrDeep},
		{"pg" + h(399), "", "", api.ErrDeep},
	})
}

// T2: 20000 bytes; what is longer is read to its end first.
func TestTakeLong(t *testing.T) {
	full, over := string(wide(20000)), string(wide(20001))
	huge := string(wide(300000))
	if len(full) != 20000 || len(over) != 20001 {
		t.Fatal(len(full), len(over))
	}
	checkTook(t, []took{
		{full, full, "", api.OK},
		{full + "q", full, "q", api.OK},
		{over, "", "", api.ErrLong},
		{over + "g", "", "", api.ErrLong},
		{over[:20000], "", "", api.ErrForm},
		{huge, "", "", api.ErrLong},
		{huge[:len(huge)-1], "", "", api.ErrForm},
		{"p" + over + "q", "", "", api.ErrForm},
		{"p" + over + strings.Repeat("h", 399), "", "", api.ErrDeep},
		{"p" + over + strings.Repeat("h", 398) + "g", "", "", api.ErrLong},
		{"e\x02" + over + "g", "", "", api.ErrForm},
		{"p" + full + "g", "", "", api.ErrLong},
	})
}

// T2: all short texts of bytes that terms are made of, alone and deep inside others.
func TestTakeAll(t *testing.T) {
	texts("ghpkesxi\x00\x01\x02", 5, func(s string) { checkTake(t, s) })
	for inside := 396; inside <= 400; inside++ {
		ahead := strings.Repeat("h", inside)
		texts("gpketi\x00\x01\x02", 4, func(s string) { checkTake(t, ahead+s) })
	}
	for first := range 256 {
		for second := range 256 {
			s := string([]byte{byte(first), byte(second)})
			checkTake(t, s)
			checkTake(t, s+strings.Repeat("g", 300))
		}
	}
	for high := range 256 {
		for low := range 256 {
			checkTake(t, "t"+string([]byte{byte(high), byte(low)})+strings.Repeat("g", 120))
		}
	}
}

// T2: right terms with a byte turned, lost or doubled.
func TestTakeTurned(t *testing.T) {
	r := rand.New(rand.NewSource(5))
	for range 2000 {
		s := string(some(r, 6))
		checkTake(t, s)
		for range 10 {
			i := r.Intn(len(s))
			turned := string([]byte{"ghpkesxintu\x00\x01\x02\x08\x20\x21\xff"[r.Intn(18)]})
			checkTake(t, s[:i]+turned+s[i+1:])
			checkTake(t, s[:i]+s[i+1:])
			checkTake(t, s[:i]+s[i:i+1]+s[i:])
		}
	}
}
