package net_test

import (
	"fmt"
	"slices"
	"testing"

	"lockgate/api"
	"lockgate/net"
)

// P11.2: what follows.

// ledger has what was sent with each number, and with that of which it is a copy.
type ledger map[int]parcel

// sent writes down what a Send, or a Copy of the packet at the place, gave its number to.
func (l ledger) sent(a act, n api.Net) {
	switch {
	case a.kind == sends:
		l[n.Next] = parcel{n.Next, a.a, a.b}
	case a.kind == copies && len(n.List) > 0:
		p := l[n.List[a.a%len(n.List)].Id]
		p.id = n.Next
		l[n.Next] = p
	}
}

// fault tells what of the net isn't as it was sent, or isn't a right net's.
func (l ledger) fault(n api.Net) string {
	for i, p := range n.List {
		if want, ok := l[p.Id]; !ok || of(p) != want {
			return fmt.Sprint("the packet ", one(of(p)), " was sent as ", one(want))
		}
		if i > 0 && p.Id <= n.List[i-1].Id {
			return fmt.Sprint("the number ", p.Id, " stands behind ", n.List[i-1].Id)
		}
		if p.Id < 0 || p.Id >= n.Next {
			return fmt.Sprint("the number ", p.Id, " doesn't lie below Next, ", n.Next)
		}
	}
	return ""
}

// nextBehind is what Next has to be behind the act.
func nextBehind(a act, n api.Net) int {
	if a.kind == sends || a.kind == copies && len(n.List) > 0 {
		return n.Next + 1
	}
	return n.Next
}

// step does the act, and asks for what follows; the bytes that were sent are written over.
func (l ledger) step(t *testing.T, what string, a act, n api.Net) api.Net {
	t.Helper()
	next := nextBehind(a, n)
	l.sent(a, n)
	var got answer
	if a.kind == sends {
		b := []byte(a.b)
		got.n = net.Send(n, a.a, b)
		overBytes(b)
	} else {
		got = a.on(n)
	}
	if s := l.fault(got.n); s != "" {
		t.Fatalf("%s: %v: %s", what, a, s)
	}
	if got.n.Next != next {
		t.Fatalf("%s: %v makes of Next %d the Next %d", what, a, n.Next, got.n.Next)
	}
	if want := l[got.p.Id]; got.ok && of(got.p) != want {
		t.Fatalf("%s: %v answers %s, which was sent as %s", what, a, one(of(got.p)), one(want))
	}
	return got.n
}

func TestP11_2BytesStay(t *testing.T) {
	c := chance(2)
	for walk := range 20 {
		l := ledger{}
		n := api.Net{Next: []int{0, 1, 1000, 1<<62 - 2000}[walk%4]}
		for i := range 1000 {
			n = l.step(t, fmt.Sprint("walk ", walk, ", step ", i), c.act(5+i/200%2, i), n)
		}
	}
}

// TestP11_2EveryShortRow asks for the same of every short row of acts.
func TestP11_2EveryShortRow(t *testing.T) {
	for _, next := range []int{0, 30} {
		var more func(row []act, l ledger, n api.Net)
		more = func(row []act, l ledger, n api.Net) {
			if len(row) == 4 {
				return
			}
			for _, a := range alphabet() {
				l := l.clone()
				left := l.step(t, fmt.Sprint("behind ", row), a, n)
				more(append(slices.Clone(row), a), l, left)
			}
		}
		more(nil, ledger{}, api.Net{Next: next})
	}
}

func (l ledger) clone() ledger {
	c := ledger{}
	for id, p := range l {
		c[id] = p
	}
	return c
}

// TestP11_2NumberOnce: what goes doesn't give its number back.
func TestP11_2NumberOnce(t *testing.T) {
	for _, a := range []act{take(0), drop(0), cut(1), take(1), drop(1)} {
		n := net.Send(net.Send(api.Net{}, 1, []byte("a")), 1, []byte("b"))
		left := a.on(n).n
		if left.Next != 2 {
			t.Fatalf("%v makes of Next 2 the Next %d", a, left.Next)
		}
		left = net.Send(left, 1, []byte("c"))
		last := left.List[len(left.List)-1]
		if of(last) != (parcel{2, 1, "c"}) || left.Next != 3 {
			t.Fatalf("behind %v Send adds %s, and the Next is %d", a, one(of(last)), left.Next)
		}
	}
}

// TestP11_2TakenInOrder takes at the place 0, one by one, what was sent, copied, dropped and cut by chance.
func TestP11_2TakenInOrder(t *testing.T) {
	c := chance(3)
	for walk := range 100 {
		l := ledger{}
		var n api.Net
		for i := range 60 {
			n = l.step(t, fmt.Sprint("walk ", walk), c.act(7, i), n)
		}
		stood, next := parcels(n), n.Next
		for i, want := range stood {
			p, left, ok := net.Take(n, 0)
			if of(p) != want || !ok {
				t.Fatalf("walk %d: taken as number %d is %s, %v; there stood %s", walk, i, one(of(p)), ok, one(want))
			}
			n = left
		}
		if p, left, ok := net.Take(n, 0); ok || of(p) != (parcel{}) || len(left.List) > 0 || left.Next != next {
			t.Fatalf("walk %d: behind the last one Take answers %s, %v, and leaves %s", walk, one(of(p)), ok, told(left))
		}
	}
}

// parcels tells the packets as they stand.
func parcels(n api.Net) []parcel {
	var l []parcel
	for _, p := range n.List {
		l = append(l, of(p))
	}
	return l
}

// TestP11_2TakeIsDrop: what is left is the same; and Cut is as many Drops.
func TestP11_2TakeIsDrop(t *testing.T) {
	c := chance(4)
	l := ledger{}
	var n api.Net
	for i := range 2000 {
		n = l.step(t, fmt.Sprint("step ", i), c.act(5, i), n)
		at := c.below(100)
		_, left, _ := net.Take(n, at)
		wantNet(t, fmt.Sprint("step ", i, ", the place ", at), net.Drop(n, at), model{left.Next, parcels(left)})
		to := c.below(4) - 1
		dropped := n
		for j := len(n.List) - 1; j >= 0; j-- {
			if n.List[j].To == to {
				dropped = net.Drop(dropped, j)
			}
		}
		wantNet(t, fmt.Sprint("step ", i, ", cut ", to), net.Cut(n, to), model{dropped.Next, parcels(dropped)})
	}
}

// TestP11_2CopyIsSend: a copy is what a Send of the same bytes to the same process is.
func TestP11_2CopyIsSend(t *testing.T) {
	c := chance(5)
	l := ledger{}
	n := net.Send(api.Net{}, 1, []byte("first"))
	l[0] = parcel{0, 1, "first"}
	for i := range 2000 {
		if len(n.List) > 0 {
			at := c.below(len(n.List))
			sent := net.Send(n, n.List[at].To, n.List[at].B)
			wantNet(t, fmt.Sprint("step ", i), net.Copy(n, at), model{sent.Next, parcels(sent)})
		}
		n = l.step(t, fmt.Sprint("step ", i), c.act(5, i), n)
	}
}
