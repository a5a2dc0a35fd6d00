package link_test

import (
	"math/rand"
	"slices"
	"strconv"
	"testing"

	"alidade/api"
	"alidade/link"
)

// side is one end, what it was given to send, and what it told.
type side struct {
	l           api.Link
	given, told []int64
	packets     []api.Packet
}

// begun is a side of a new end.
func begun(t *testing.T, own int64) *side {
	t.Helper()
	l, e := link.New(own)
	if e != api.OK {
		t.Fatalf("New(%d): %d", own, e)
	}
	return &side{l: l}
}

// send gives a side a word.
func (s *side) send(w int64) {
	if l, e := link.Send(s.l, w); e == api.OK {
		s.l, s.given = l, append(s.given, w)
	}
}

// out lets a side make a packet.
func (s *side) out() {
	s.packets = append(s.packets, link.Out(s.l))
}

// in lets a packet come to a side.
func (s *side) in(p api.Packet) {
	l, words := link.In(s.l, p)
	s.l, s.told = l, append(s.told, words...)
}

// isAhead tells whether a row is another one's beginning.
func isAhead(part, all []int64) bool {
	return len(part) <= len(all) && slices.Equal(part, all[:len(part)])
}

// TestInOrder: P11.4: whatever packets come, how often, and in what order, what is told is what was given, from its beginning on.
func TestInOrder(t *testing.T) {
	source := rand.New(rand.NewSource(6))
	for range 400 {
		a, b := begun(t, 1+source.Int63n(1<<62)), begun(t, 1+source.Int63n(1<<62))
		for range 300 {
			from, to := a, b
			if source.Intn(2) == 0 {
				from, to = b, a
			}
			switch source.Intn(4) {
			case 0:
				from.send(int64(source.Uint64()))
			case 1:
				from.out()
			case 2:
				if n := len(from.packets); n > 0 {
					to.in(from.packets[source.Intn(n)])
				}
			case 3:
				if n := len(from.packets); n > 0 {
					to.in(from.packets[n-1-source.Intn(min(n, 3))])
				}
			}
			if !isAhead(a.told, b.given) || !isAhead(b.told, a.given) {
				t.Fatalf("%v told %v of %v, %v told %v of %v", a.l, a.told, b.given, b.l, b.told, a.given)
			}
		}
		for range 2 {
			b.in(link.Out(a.l))
			a.in(link.Out(b.l))
		}
		if !slices.Equal(a.told, b.given) || !slices.Equal(b.told, a.given) || len(a.l.Sent) > 0 {
			t.Fatalf("in the end %v told %v of %v, %v told %v of %v", a.l, a.told, b.given, b.l, b.told, a.given)
		}
	}
}

// name is an end as a text.
func name(l api.Link) string {
	text := strconv.FormatInt(l.Own, 10)
	for _, n := range append([]int64{l.Other, l.First, l.Next}, l.Sent...) {
		text += " " + strconv.FormatInt(n, 10)
	}
	return text
}

// TestAllOrders: P11.4: of up to 10 words each, all ends that come about by any packets, in any order, even those that one course of things doesn't make together.
func TestAllOrders(t *testing.T) {
	const most = 10
	word := func(own, i int64) int64 { return 100*own + i }
	var all [2][]api.Link
	seen := map[string]bool{}
	add := func(i int, l api.Link) {
		if key := name(l); !seen[key] {
			seen[key] = true
			all[i] = append(all[i], l)
		}
	}
	meet := func(i int, l, other api.Link) {
		m, told := link.In(l, link.Out(other))
		for j, w := range told {
			if w != word(other.Own, l.Next+int64(j)) {
				t.Fatalf("%v told %v of %v", l, told, other)
			}
		}
		if m.Next != l.Next+int64(len(told)) || m.First+int64(len(m.Sent)) != l.First+int64(len(l.Sent)) {
			t.Fatalf("%v became %v by %v", l, m, other)
		}
		add(i, m)
	}
	for i := range 2 {
		add(i, begun(t, int64(i+3)).l)
	}
	for done := [2]int{}; done[0] < len(all[0]) || done[1] < len(all[1]); {
		for i := range 2 {
			if done[i] == len(all[i]) {
				continue
			}
			l := all[i][done[i]]
			done[i]++
			if given := l.First + int64(len(l.Sent)); given < most && len(l.Sent) < 8 {
				m, _ := link.Send(l, word(l.Own, given))
				add(i, m)
			}
			for _, other := range all[1-i][:done[1-i]] {
				meet(i, l, other)
				meet(1-i, other, l)
			}
		}
	}
	if len(all[0]) != len(all[1]) || len(all[0]) < 500 {
		t.Error(len(all[0]), len(all[1]))
	}
}

// TestOthers: P11.3, P11.4: ends that crash, and are followed by such of greater numbers: each one tells, without a gap, what the other side's end was given and hadn't heard of when it came to know it; what goes to whoever, comes in time.
func TestOthers(t *testing.T) {
	source := rand.New(rand.NewSource(7))
	for range 200 {
		a, b := begun(t, 1), begun(t, 2)
		heard, start := 0, 0
		for own := int64(3); own < 9; own++ {
			for range 80 {
				switch source.Intn(4) {
				case 0:
					a.send(int64(source.Uint64()))
				case 1:
					was := a.l
					a.in(link.Out(b.l))
					if was.Other != a.l.Other {
						start = heard
					}
					heard = start + int(a.l.First)
				case 2:
					a.out()
				case 3:
					if n := len(a.packets); n > 0 && (a.l.Other == b.l.Own || own == 3) {
						b.in(a.packets[source.Intn(n)])
					}
				}
				a.packets = slices.DeleteFunc(a.packets, func(p api.Packet) bool { return own > 3 && p.To == 0 })
				if !isAhead(b.told, a.given[start:]) {
					t.Fatalf("%v told %v of %v from %d on", b.l, b.told, a.given, start)
				}
				if start+len(b.told) < heard || len(a.given)-heard != len(a.l.Sent) {
					t.Fatalf("%d of %v are heard of by %v, that told %v", heard, a.given, b.l, b.told)
				}
			}
			a.in(link.Out(b.l))
			heard = start + int(a.l.First)
			b = begun(t, own)
			start = heard
		}
	}
}

// withMore is a list with others behind it in one memory.
func withMore(l []int64) (part, all []int64) {
	all = append(slices.Clone(l), 7, 7, 7, 7)
	return all[:len(l)], all
}

// TestLeft: R3: what is handed in, and what lies behind it, stays as it is.
func TestLeft(t *testing.T) {
	source := rand.New(rand.NewSource(8))
	for range 20000 {
		l := someEnd(source)
		p := somePacket(source, l)
		m, q := l, p
		sent, allSent := withMore(l.Sent)
		words, allWords := withMore(p.Words)
		m.Sent, q.Words = sent, words
		wasSent, wasWords := slices.Clone(allSent), slices.Clone(allWords)
		link.Right(m)
		link.Send(m, 3)
		link.Out(m)
		link.In(m, q)
		link.Same(m, m)
		if !slices.Equal(allSent, wasSent) || !slices.Equal(allWords, wasWords) {
			t.Fatalf("%v and %v became %v, %v", l, p, allSent, allWords)
		}
	}
}

// spoilt writes over all memory of lists; what two of them share doesn't become again what it was.
func spoilt(lists ...[]int64) {
	for _, l := range lists {
		l = l[:cap(l)]
		for i := range l {
			l[i] += 99
		}
	}
}

// TestApart: R3: what comes out is changed by nobody who has what was handed in, or what else came out.
func TestApart(t *testing.T) {
	source := rand.New(rand.NewSource(9))
	alone := func(l api.Link, p api.Packet, call func(l api.Link, p api.Packet) (sent, told []int64)) {
		t.Helper()
		sent, told := call(twin(l), p)
		wantSent, wantTold := slices.Clone(sent), slices.Clone(told)
		m, q := twin(l), p
		q.Words = slices.Clone(p.Words)
		sent, told = call(m, q)
		otherSent, otherTold := call(m, q)
		spoilt(m.Sent, q.Words, otherSent, otherTold)
		if !slices.Equal(sent, wantSent) || !slices.Equal(told, wantTold) {
			t.Fatalf("of %v and %v became %v, %v, not %v, %v", l, p, sent, told, wantSent, wantTold)
		}
		spoilt(sent)
		if !slices.Equal(told, wantTold) {
			t.Fatalf("lists of one memory: %v, not %v", told, wantTold)
		}
	}
	for range 20000 {
		l := someEnd(source)
		p := somePacket(source, l)
		alone(l, p, func(l api.Link, p api.Packet) (sent, told []int64) {
			m, told := link.In(l, p)
			return m.Sent, told
		})
		alone(l, p, func(l api.Link, _ api.Packet) (sent, told []int64) {
			m, _ := link.Send(l, 3)
			return m.Sent, nil
		})
		alone(l, p, func(l api.Link, _ api.Packet) (sent, told []int64) {
			return link.Out(l).Words, nil
		})
	}
}

// TestOneMemory: R3: an end's words and a packet's may be of one memory.
func TestOneMemory(t *testing.T) {
	row := []int64{3, 5, 8, 13}
	l := api.Link{Own: 5, Other: 7, First: 2, Sent: row, Next: 1}
	comes(t, l, api.Packet{From: 7, To: 5, Words: row, Wait: 4}, api.Link{Own: 5, Other: 7, First: 4, Sent: []int64{8, 13}, Next: 4}, []int64{5, 8, 13})
	if !slices.Equal(row, []int64{3, 5, 8, 13}) {
		t.Error(row)
	}
}

// TestSameAgain: R4: the same is answered to the same arguments, whatever was asked between.
func TestSameAgain(t *testing.T) {
	source := rand.New(rand.NewSource(10))
	for range 5000 {
		l, m := someEnd(source), someEnd(source)
		p := somePacket(source, l)
		a, told := link.In(l, p)
		b, e := link.Send(l, 9)
		link.In(m, p)
		link.Send(m, 8)
		link.New(m.Own)
		c, again := link.In(l, p)
		d, f := link.Send(l, 9)
		if !link.Same(a, c) || !link.Same(b, d) || e != f || !slices.Equal(told, again) {
			t.Fatalf("%v and %v: %v and %v, %v and %v", l, p, a, c, b, d)
		}
	}
}
