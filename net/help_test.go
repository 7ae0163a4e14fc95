package net_test

import (
	"math"
	"math/rand"
	"slices"
	"strings"
	"testing"

	"gemot/api"
	"gemot/net"
	"gemot/term"
)

type row = []term.Term

// plain says the chapter's words again with two slices: what lies, and every frame that was ever heard, as often as it was.
type plain struct {
	lies  []net.Datagram
	heard row
}

// send counts on a right frame from a process to a process.
func (p *plain) send(d net.Datagram) api.Errno {
	p.heard = append(p.heard, d.Frame)
	return p.add(d)
}

func (p *plain) add(d net.Datagram) api.Errno {
	if len(p.lies) == 400 {
		return api.ErrFull
	}
	p.lies = append(p.lies, d)
	return api.OK
}

func (p *plain) take(i int) (net.Datagram, api.Errno) {
	if i < 0 || i >= len(p.lies) {
		return net.Datagram{}, api.ErrNone
	}
	d := p.lies[i]
	var rest []net.Datagram
	rest = append(rest, p.lies[:i]...)
	p.lies = append(rest, p.lies[i+1:]...)
	return d, api.OK
}

func (p *plain) double(i int) api.Errno {
	if i < 0 || i >= len(p.lies) {
		return api.ErrNone
	}
	return p.add(p.lies[i])
}

// once is the frames that were heard, by bytes, each once.
func (p *plain) once() row {
	var l row
	for _, t := range p.heard {
		i := 0
		for i < len(l) && l[i] < t {
			i++
		}
		if i == len(l) || l[i] != t {
			l = slices.Insert(l, i, t)
		}
	}
	return l
}

func u(n int) term.Term { return term.Number(uint64(n)) }

func from(p, q int, frame term.Term) net.Datagram {
	return net.Datagram{From: p, To: q, Frame: frame}
}

// datagrams is so many that are all told apart.
func datagrams(many int) []net.Datagram {
	l := make([]net.Datagram, many)
	for i := range l {
		l[i] = from(1+i%8, 1+i/8%8, u(i))
	}
	return l
}

func framesOf(l []net.Datagram) row {
	var f row
	for _, d := range l {
		f = append(f, d.Frame)
	}
	return f
}

// sent is a net in which these lie, where the test counts on there being room.
func sent(l ...net.Datagram) *net.Net {
	n := net.New()
	for _, d := range l {
		if e := n.Send(d); e != api.OK {
			panic(e)
		}
	}
	return n
}

func checkSend(t *testing.T, n *net.Net, d net.Datagram, want api.Errno) {
	t.Helper()
	if e := n.Send(d); e != want {
		t.Fatalf("Send of %s: error %d, want %d", show(d), e, want)
	}
}

func checkTake(t *testing.T, n *net.Net, i int, want net.Datagram, wantErr api.Errno) {
	t.Helper()
	if d, e := n.Take(i); d != want || e != wantErr {
		t.Fatalf("Take of %d: %s error %d, want %s error %d", i, show(d), e, show(want), wantErr)
	}
}

func checkDouble(t *testing.T, n *net.Net, i int, want api.Errno) {
	t.Helper()
	if e := n.Double(i); e != want {
		t.Fatalf("Double of %d: error %d, want %d", i, e, want)
	}
}

// checkNet holds all that a net shows against these: what lies in it, in order, and what was heard, by bytes; and, of N2, that whatever lies was heard.
func checkNet(t *testing.T, n *net.Net, lies []net.Datagram, heard row) {
	t.Helper()
	if got := n.Many(); got != len(lies) {
		t.Fatalf("Many: %d, want %d", got, len(lies))
	}
	got := n.Lie()
	if !slices.Equal(got, lies) {
		t.Fatalf("Lie: %s, want %s", show(got...), show(lies...))
	}
	ever := n.Heard()
	if !slices.Equal(ever, heard) {
		t.Fatalf("Heard: %q, want %q", ever, heard)
	}
	for _, d := range got {
		if _, was := slices.BinarySearch(ever, d.Frame); !was {
			t.Fatalf("%s lies and was not heard", show(d))
		}
	}
}

func checkPlain(t *testing.T, n *net.Net, p *plain) {
	t.Helper()
	checkNet(t, n, p.lies, p.once())
}

func show(l ...net.Datagram) string {
	var b strings.Builder
	for _, d := range l {
		f := d.Frame
		if len(f) > 50 {
			f = f[:50] + ".."
		}
		b.WriteString(string(rune('0'+d.From)) + ">" + string(rune('0'+d.To)) + ":" + strings.ToValidUTF8(string(f), "?") + " ")
	}
	return b.String()
}

// hashes is g behind so many h: a term of that depth and as many bytes.
func hashes(depth int) term.Term { return term.Term(strings.Repeat("h", depth-1) + "g") }

// wide is a term of just that many bytes (at least 3) that is shallow: halves in pairs.
func wide(size int) term.Term {
	if size <= api.MaxText+3 {
		return term.Term("t\x00" + string(rune(size-3)) + strings.Repeat("w", size-3))
	}
	left := (size - 1) / 2
	return "p" + wide(left) + wide(size-1-left)
}

// wrongs are texts that are no right terms, whole.
func wrongs() row {
	return row{
		"", " ", "q", "G", "\x00", "\xff", "gg", " g", u(1)[:8], u(1) + "g", "u", "n", "t", "t\x00\x01", "t\x01\x00", "i", "i\x00", "i\x09", "i\x01g",
		"e", "e\x00", "e\x01", "e\x02g", "e\x02hgg", "k", "kkg", "kgg", "h", "hq", "hgg", "p", "pg", "pgq", "pqg", "pggg", "s", "sgg", "sgggg", "x", "xi\x01", "xi\x01gg",
		hashes(401), wide(20001), term.Term(strings.Repeat("h", 1<<20)), term.Term(strings.Repeat("p", 1<<20)), wide(1 << 20),
	}
}

// noProcesses are numbers that are not 1 to 8.
func noProcesses() []int {
	return []int{0, 9, -1, -8, 10, 256 + 1, 1<<32 + 1, -1 << 32, math.MaxInt, math.MinInt, math.MinInt + 1}
}

// outside are places at which nothing lies in a net of so many.
func outside(many int) []int {
	return []int{many, many + 1, many + 400, 1 << 32, math.MaxInt, -1, -2, -many, -many - 1, -1 << 32, math.MinInt, math.MinInt + 1}
}

// some is a right datagram, its frame often one that was there before, by chance that is the same each time.
func some(r *rand.Rand) net.Datagram {
	frame := term.Number(r.Uint64())
	if r.Intn(2) == 0 {
		frame = row{"g", "hg", "kg", "pgg", "i\x01", "i\x08", "xi\x01g", "t\x00\x00", u(0), u(1)}[r.Intn(10)]
	}
	return from(1+r.Intn(8), 1+r.Intn(8), frame)
}
