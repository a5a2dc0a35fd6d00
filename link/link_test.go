package link_test

import (
	"math/rand"
	"slices"
	"testing"

	"alidade/api"
	"alidade/link"
)

// TestNew: P11.1: an end of each number that may be; ErrArg and nothing of others.
func TestNew(t *testing.T) {
	for _, own := range append([]int64{5, 1000, 1 << 40}, edges...) {
		want, bad := api.Link{Own: own}, api.OK
		if own < 1 || own > 1<<62 {
			want, bad = api.Link{}, api.ErrArg
		}
		if l, e := link.New(own); e != bad || !sameEnds(l, want) {
			t.Errorf("New(%d): %v, %d", own, l, e)
		}
	}
}

// TestRight: P11.1, the chapter's words: each number at its ends, and how many words there are.
func TestRight(t *testing.T) {
	check := func(l api.Link, want bool) {
		t.Helper()
		if got := link.Right(l); got != want || got != modelRight(l) {
			t.Errorf("Right(%v): %t", l, got)
		}
	}
	for _, n := range edges {
		for long := range 12 {
			sent := make([]int64, long)
			check(api.Link{Own: n, Sent: sent}, n >= 1 && n <= 1<<62 && long <= 8)
			check(api.Link{Own: 7, Other: n, Sent: sent}, n >= 0 && n <= 1<<62 && long <= 8)
			check(api.Link{Own: 7, First: n, Sent: sent}, n >= 0 && n <= 1<<62 && long <= 8)
			check(api.Link{Own: 7, Next: n, Sent: sent}, n >= 0 && n <= 1<<62 && long <= 8)
		}
	}
	check(api.Link{}, false)
	check(api.Link{Own: 1 << 62, Other: 1 << 62, First: 1 << 62, Next: 1 << 62, Sent: make([]int64, 8)}, true)
	check(api.Link{Own: 1, Sent: make([]int64, 1000)}, false)
	source := rand.New(rand.NewSource(1))
	for range 20000 {
		check(someEnd(source), true)
		l := oddEnd(source)
		check(l, modelRight(l))
	}
}

// TestSame: P11.1: whatever is another one is seen; nil or empty doesn't count.
func TestSame(t *testing.T) {
	l := api.Link{Own: 5, Other: 6, First: 7, Next: 8, Sent: []int64{9, 10}}
	if !link.Same(l, twin(l)) || !link.Same(api.Link{}, api.Link{Sent: []int64{}}) || !link.Same(api.Link{Sent: []int64{}}, api.Link{}) {
		t.Error("the same are others")
	}
	other := func(change func(l *api.Link)) {
		t.Helper()
		m := twin(l)
		change(&m)
		if link.Same(l, m) || link.Same(m, l) || !link.Same(m, m) {
			t.Errorf("Same of %v and %v", l, m)
		}
	}
	for bit := range 64 {
		other(func(l *api.Link) { l.Own ^= 1 << bit })
		other(func(l *api.Link) { l.Other ^= 1 << bit })
		other(func(l *api.Link) { l.First ^= 1 << bit })
		other(func(l *api.Link) { l.Next ^= 1 << bit })
		other(func(l *api.Link) { l.Sent[0] ^= 1 << bit })
		other(func(l *api.Link) { l.Sent[1] ^= 1 << bit })
	}
	other(func(l *api.Link) { l.Sent = nil })
	other(func(l *api.Link) { l.Sent = l.Sent[:1] })
	other(func(l *api.Link) { l.Sent = l.Sent[1:] })
	other(func(l *api.Link) { l.Sent = append(l.Sent, 0) })
	other(func(l *api.Link) { slices.Reverse(l.Sent) })
	other(func(l *api.Link) { l.First, l.Next = l.Next, l.First })
}

// TestSend: P11.1: words behind one another till there are as many as may be, and then none.
func TestSend(t *testing.T) {
	source := rand.New(rand.NewSource(2))
	for range 3000 {
		l := someEnd(source)
		want := twin(l)
		for range 12 {
			w, bad := someEdge(source), api.OK
			if len(want.Sent) == 8 {
				bad = api.ErrFull
			} else {
				want.Sent = append(want.Sent, w)
			}
			m, e := link.Send(l, w)
			if e != bad || !sameEnds(m, want) {
				t.Fatalf("Send(%v, %d): %v, %d", l, w, m, e)
			}
			l = m
		}
	}
}

// TestOut: P11.2.
func TestOut(t *testing.T) {
	source := rand.New(rand.NewSource(3))
	for range 3000 {
		l := someEnd(source)
		p := link.Out(l)
		if p.From != l.Own || p.To != l.Other || p.Place != l.First || p.Wait != l.Next || !slices.Equal(p.Words, l.Sent) {
			t.Errorf("Out(%v): %v", l, p)
		}
	}
	p := link.Out(api.Link{Own: 3, Other: 4, First: 5, Sent: []int64{6, 7}, Next: 8})
	if p.From != 3 || p.To != 4 || p.Place != 5 || p.Wait != 8 || !slices.Equal(p.Words, []int64{6, 7}) {
		t.Error(p)
	}
}

// comes tells where In doesn't answer what is wanted.
func comes(t *testing.T, l api.Link, p api.Packet, want api.Link, told []int64) {
	t.Helper()
	got, words := link.In(l, p)
	if !sameEnds(got, want) || !slices.Equal(words, told) {
		t.Errorf("In(%v, %v): %v, %v, not %v, %v", l, p, got, words, want, told)
	}
	model, same := modelIn(twin(l), p)
	if !sameEnds(model, want) || !slices.Equal(same, told) {
		t.Errorf("In(%v, %v), by the model: %v, %v, not %v, %v", l, p, model, same, want, told)
	}
}

// TestExample: the chapter's example.
func TestExample(t *testing.T) {
	a, _ := link.New(1)
	a, _ = link.Send(a, 5)
	p := link.Out(a)
	if p.Place != 0 || !slices.Equal(p.Words, []int64{5}) {
		t.Error(p)
	}
	b, _ := link.New(2)
	comes(t, b, p, api.Link{Own: 2, Other: 1, Next: 1}, []int64{5})
}

// TestLetGo: P11.3: a packet that may not be changes nothing, whatever else it has.
func TestLetGo(t *testing.T) {
	l := api.Link{Own: 5, Other: 7, First: 2, Sent: []int64{4, 4}, Next: 3}
	good := api.Packet{From: 9, To: 5, Place: 0, Words: []int64{1, 2, 3, 4}, Wait: 1}
	comes(t, l, good, api.Link{Own: 5, Other: 9, First: 1, Sent: []int64{4}, Next: 4}, []int64{1, 2, 3, 4})
	change := func(isLet bool, how func(p *api.Packet)) {
		t.Helper()
		p := good
		how(&p)
		want, told := modelIn(twin(l), p)
		if isLet != (sameEnds(want, l) && len(told) == 0) {
			t.Errorf("the model takes %v otherwise", p)
		}
		if isLet {
			want, told = l, nil
		}
		comes(t, l, p, want, told)
	}
	for _, n := range edges {
		change(n < 7 || n > 1<<62, func(p *api.Packet) { p.From = n })
		change(n != 0, func(p *api.Packet) { p.To = n })
		change(n < 0 || n > 1<<62-8, func(p *api.Packet) { p.Place = n })
		change(n < 0 || n > 1<<62, func(p *api.Packet) { p.Wait = n })
	}
	for _, n := range []int64{6, 5, 4, -5} {
		change(true, func(p *api.Packet) { p.From = n })
		change(n != 5, func(p *api.Packet) { p.To = n })
	}
	for long := range 40 {
		change(long > 8, func(p *api.Packet) { p.Words = make([]int64, long) })
	}
}

// TestNobody: P11.3: nobody is number 0, though an end that knows nobody has that number.
func TestNobody(t *testing.T) {
	l := api.Link{Own: 5, Sent: []int64{4}}
	comes(t, l, api.Packet{To: 5, Words: []int64{1}, Wait: 1}, l, nil)
	comes(t, l, api.Packet{From: 1, To: 5, Words: []int64{1}, Wait: 1}, api.Link{Own: 5, Other: 1, First: 1, Next: 1}, []int64{1})
}

// TestNewer: P11.3: of another end that is a new one all is counted from 0, and what isn't heard of stays.
func TestNewer(t *testing.T) {
	l := api.Link{Own: 5, Other: 7, First: 20, Sent: []int64{4, 6, 8}, Next: 30}
	for _, x := range []struct {
		p    api.Packet
		want api.Link
		told []int64
	}{
		{api.Packet{From: 8}, api.Link{Own: 5, Other: 8, Sent: l.Sent}, nil},
		{api.Packet{From: 1 << 62, To: 5}, api.Link{Own: 5, Other: 1 << 62, Sent: l.Sent}, nil},
		{api.Packet{From: 8, Words: []int64{1, 2}}, api.Link{Own: 5, Other: 8, Sent: l.Sent, Next: 2}, []int64{1, 2}},
		{api.Packet{From: 8, Wait: 2}, api.Link{Own: 5, Other: 8, Sent: l.Sent}, nil},
		{api.Packet{From: 8, To: 5, Wait: 2}, api.Link{Own: 5, Other: 8, First: 2, Sent: []int64{8}}, nil},
		{api.Packet{From: 8, To: 5, Wait: 3}, api.Link{Own: 5, Other: 8, First: 3}, nil},
		{api.Packet{From: 8, To: 5, Wait: 4}, api.Link{Own: 5, Other: 8, Sent: l.Sent}, nil},
		{api.Packet{From: 8, To: 5, Wait: 21}, api.Link{Own: 5, Other: 8, Sent: l.Sent}, nil},
		{api.Packet{From: 8, To: 5, Place: 30, Words: []int64{1}}, api.Link{Own: 5, Other: 8, Sent: l.Sent}, nil},
		{api.Packet{From: 7, To: 5, Place: 30, Words: []int64{1}, Wait: 21}, api.Link{Own: 5, Other: 7, First: 21, Sent: []int64{6, 8}, Next: 31}, []int64{1}},
	} {
		comes(t, l, x.p, x.want, x.told)
	}
}

// TestHeard: P11.3: what is heard of is sent no more, if the packet is for this end; no other Wait counts.
func TestHeard(t *testing.T) {
	for _, first := range []int64{0, 1, 20, 1<<62 - 9, 1<<62 - 3, 1 << 62} {
		l := api.Link{Own: 5, Other: 7, First: first, Sent: []int64{4, 6, 8}, Next: 30}
		for off := int64(-5); off <= 8; off++ {
			want := twin(l)
			if off > 0 && off <= 3 && first+off <= 1<<62 {
				want.First, want.Sent = first+off, l.Sent[off:]
			}
			comes(t, l, api.Packet{From: 7, To: 5, Wait: first + off}, want, nil)
			comes(t, l, api.Packet{From: 7, Wait: first + off}, l, nil)
		}
	}
}

// TestTold: P11.3: of words those from Next on are told, none twice, and none behind a gap.
func TestTold(t *testing.T) {
	words := []int64{10, 11, 12, 13, 14, 15, 16, 17}
	for _, next := range []int64{0, 3, 8, 100, 1<<62 - 16, 1<<62 - 9, 1<<62 - 8, 1<<62 - 1, 1 << 62} {
		l := api.Link{Own: 5, Other: 7, First: 2, Sent: []int64{4}, Next: next}
		for off := int64(-20); off <= 10; off++ {
			for long := range 9 {
				want, told := twin(l), []int64(nil)
				if place := next + off; off <= 0 && int64(long) > -off && place >= 0 && place <= 1<<62-8 {
					told = words[-off:long]
					want.Next = place + int64(long)
				}
				comes(t, l, api.Packet{From: 7, To: 5, Place: next + off, Words: words[:long]}, want, told)
				comes(t, l, api.Packet{From: 7, Place: next + off, Words: words[:long]}, want, told)
			}
		}
	}
}

// TestIn: P11.3: packets of all sorts to ends of all sorts.
func TestIn(t *testing.T) {
	source := rand.New(rand.NewSource(4))
	for range 200000 {
		l := someEnd(source)
		p := somePacket(source, l)
		want, told := modelIn(twin(l), p)
		comes(t, l, p, want, told)
		if got, _ := link.In(l, p); !link.Right(got) {
			t.Errorf("In(%v, %v): %v isn't right", l, p, got)
		}
	}
}

// TestOddEnds: R1: no call panics, whatever the end is.
func TestOddEnds(t *testing.T) {
	source := rand.New(rand.NewSource(5))
	for range 100000 {
		l := oddEnd(source)
		link.In(l, somePacket(source, l))
		link.In(l, link.Out(oddEnd(source)))
		link.Out(l)
		if _, e := link.Send(l, 1); (e == api.ErrFull) != (len(l.Sent) >= 8) {
			t.Errorf("Send(%v): %d", l, e)
		}
	}
	for _, first := range edges {
		for _, other := range edges {
			l := api.Link{Own: 5, Other: 7, First: first, Sent: make([]int64, 20), Next: other}
			for _, wait := range edges {
				link.In(l, api.Packet{From: 7, To: 5, Place: wait, Words: make([]int64, 8), Wait: wait})
			}
		}
	}
}
