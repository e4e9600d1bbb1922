package net_test

import (
	"fmt"
	"testing"

	"lockgate/api"
	"lockgate/net"
)

// P11.3: what is handed in stays, what is answered is new memory.

// roomyBytes has room behind the bytes, with others' bytes in it.
func roomyBytes(b string) []byte {
	all := []byte(b + "room behind")
	return all[:len(b)]
}

// roomy is the net as the model is, with packets in the room behind the list, and bytes in the room behind each one's.
func roomy(m model) api.Net {
	var l []api.Packet
	for _, p := range m.list {
		l = append(l, api.Packet{Id: p.id, To: p.to, B: roomyBytes(p.b)})
	}
	for i := range 3 {
		l = append(l, api.Packet{Id: 70 + i, To: 7, B: roomyBytes("behind")})
	}
	return api.Net{Next: m.next, List: l[:len(m.list):len(l)]}
}

// whole tells all of a net's memory: what there is room for, too.
func whole(n api.Net) string {
	s := fmt.Sprint(n.Next, len(n.List), cap(n.List))
	for _, p := range n.List[:cap(n.List)] {
		s += fmt.Sprintf(" %d %d %d %q", p.Id, p.To, len(p.B), p.B[:cap(p.B)])
	}
	return s
}

// overBytes writes over bytes, and over what there is room for behind them.
func overBytes(b []byte) {
	b = b[:cap(b)]
	for i := range b {
		b[i] ^= 0xa5
	}
}

// overAll writes over the bytes of all packets, of those in the room behind, too.
func overAll(n api.Net) {
	for _, p := range n.List[:cap(n.List)] {
		overBytes(p.B)
	}
}

// over writes over a net's bytes, and then over its list.
func over(n api.Net) {
	overAll(n)
	l := n.List[:cap(n.List)]
	for i := range l {
		l[i] = api.Packet{Id: 99 + i, To: 99, B: []byte("written over")}
	}
}

// apart asks that nothing that is written to one of the packets, or behind it, turns another one of them.
func apart(t *testing.T, what string, l []api.Packet) {
	t.Helper()
	for i := range l {
		was := parcels(api.Net{List: l})
		overBytes(l[i].B)
		_ = append(l[i].B, "more than there is room for"...)
		for j, p := range l {
			if j != i && of(p) != was[j] {
				t.Fatalf("%s: writing over %s makes %s of %s", what, one(was[i]), one(of(p)), one(was[j]))
			}
		}
		overBytes(l[i].B)
	}
}

// stocks are nets of no, of one and of several packets, some with no bytes, some of the same.
func stocks() []model {
	return []model{
		stock(0),
		stock(5),
		stock(1, parcel{0, 1, "one"}),
		stock(3, parcel{1, 2, ""}),
		stock(9, parcel{1, 1, "same"}, parcel{2, 2, "same"}),
		stock(9, parcel{1, 1, ""}, parcel{4, 1, "b"}, parcel{6, 2, ""}),
		stock(9, parcel{0, 1, "some bytes"}, parcel{1, 2, "b"}, parcel{6, 1, "cc"}, parcel{7, 3, "d"}),
		stock(1<<62, parcel{0, 1, "a"}, parcel{1, 1, "b"}, parcel{2, 1, "c"}),
	}
}

// deeds take, drop, copy and cut all, some and nothing of what is there.
func deeds() []act {
	l := []act{send(1, "sent"), send(2, ""), send(3, "sent, and longer than all that stands there")}
	for i := range 5 {
		l = append(l, take(i), drop(i), double(i), cut(i))
	}
	return append(l, take(-1), drop(-1), double(-1))
}

// each calls with each net and each act.
func each(call func(what string, m model, a act)) {
	for _, m := range stocks() {
		for _, a := range deeds() {
			call(fmt.Sprint(a, " of ", told(m.net())), m, a)
		}
	}
}

func TestP11_3WhatIsHandedInStays(t *testing.T) {
	each(func(what string, m model, a act) {
		n := roomy(m)
		was := whole(n)
		a.on(n)
		if whole(n) != was {
			t.Fatalf("%s: what is handed in turned to %s", what, whole(n))
		}
	})
}

func TestP11_3SentBytesStay(t *testing.T) {
	for _, m := range stocks() {
		for _, text := range []string{"", "b", "some bytes"} {
			b := roomyBytes(text)
			net.Send(roomy(m), 1, b)
			if got := string(b[:cap(b)]); got[:len(text)+11] != text+"room behind" {
				t.Fatalf("Send makes %q of %q", got, text)
			}
		}
	}
}

// held is an answer, and what it was when it was answered.
type held struct {
	answer
	was  model
	took parcel
}

func hold(a answer) held {
	return held{a, model{a.n.Next, parcels(a.n)}, of(a.p)}
}

func (h held) wantStays(t *testing.T, what string) {
	t.Helper()
	wantNet(t, what, h.n, h.was)
	if of(h.p) != h.took {
		t.Fatalf("%s: the packet that was taken turned to %s", what, one(of(h.p)))
	}
}

// TestP11_3NothingIsKept writes over what was handed in, bytes first, then lists, and over what there is room for behind them.
func TestP11_3NothingIsKept(t *testing.T) {
	each(func(what string, m model, a act) {
		n := roomy(m)
		h := hold(a.on(n))
		overAll(n)
		h.wantStays(t, what+", the bytes written over")
		over(n)
		h.wantStays(t, what+", the list written over")
	})
}

func TestP11_3SentBytesAreNotKept(t *testing.T) {
	for _, m := range stocks() {
		for _, text := range []string{"", "b", "some bytes"} {
			b := roomyBytes(text)
			h := hold(answer{n: net.Send(roomy(m), 1, b)})
			overBytes(b)
			h.wantStays(t, fmt.Sprintf("Send of %q to %s", text, told(m.net())))
		}
	}
}

// TestP11_3BytesOfTheNetSentAgain hands in as bytes what is a packet's already, or a part of it.
func TestP11_3BytesOfTheNetSentAgain(t *testing.T) {
	for _, part := range [][2]int{{0, 5}, {0, 2}, {1, 3}, {5, 5}} {
		n := roomy(stock(1, parcel{0, 1, "first"}))
		b := n.List[0].B[part[0]:part[1]]
		h := hold(answer{n: net.Send(n, 2, b)})
		wantNet(t, "sent again", h.n, stock(2, parcel{0, 1, "first"}, parcel{1, 2, "first"[part[0]:part[1]]}))
		overBytes(b)
		h.wantStays(t, "sent again, written over")
		apart(t, "sent again", h.n.List)
	}
}

// TestP11_3WhatIsAnsweredIsNew writes over what was answered, the packets and the bytes: nothing of what was handed in turns, nor another answer.
func TestP11_3WhatIsAnsweredIsNew(t *testing.T) {
	each(func(what string, m model, a act) {
		for _, b := range deeds() {
			n := roomy(m)
			was := whole(n)
			other := hold(b.on(n))
			got := a.on(n)
			overAll(got.n)
			overBytes(got.p.B)
			over(got.n)
			if whole(n) != was {
				t.Fatalf("%s, written over: what was handed in turned to %s", what, whole(n))
			}
			other.wantStays(t, fmt.Sprint(what, ", written over, ahead of it ", b))
		}
	})
}

// TestP11_3TakenIsApart: neither the packet that is taken nor the net that is left has the other's memory.
func TestP11_3TakenIsApart(t *testing.T) {
	for _, m := range stocks() {
		for i := range m.list {
			what := fmt.Sprint("Take(", i, ") of ", told(m.net()))
			h := hold(take(i).on(roomy(m)))
			overBytes(h.p.B)
			wantNet(t, what+", the packet written over", h.n, h.was)
			h = hold(take(i).on(roomy(m)))
			over(h.n)
			if of(h.p) != h.took {
				t.Fatalf("%s, the net written over: the packet turned to %s", what, one(of(h.p)))
			}
		}
	}
}

// TestP11_3PacketsAreApart: no packet of an answer has another one's memory, neither to write over nor to write behind; a copy's bytes are its own.
func TestP11_3PacketsAreApart(t *testing.T) {
	each(func(what string, m model, a act) {
		got := a.on(roomy(m))
		l := got.n.List[:len(got.n.List):len(got.n.List)]
		if got.ok {
			l = append(l, got.p)
		}
		apart(t, what, l)
	})
}

// TestP11_3BytesInOnePiece hands in packets whose bytes are one another's memory: those of the answer aren't.
func TestP11_3BytesInOnePiece(t *testing.T) {
	for _, a := range deeds() {
		if a.a < 0 {
			continue
		}
		piece := []byte("abcdef")
		n := api.Net{Next: 4, List: []api.Packet{
			{Id: 0, To: 1, B: piece[:3]}, {Id: 1, To: 2, B: piece[:3]}, {Id: 2, To: 3, B: piece[1:5]}, {Id: 3, To: 1, B: piece},
		}}
		m := model{4, parcels(n)}
		got := wantDone(t, "one piece", a, n, &m)
		apart(t, fmt.Sprint("one piece, ", a), got.List)
		overBytes(piece)
		wantNet(t, fmt.Sprint("one piece, written over, ", a), got, m)
	}
}

// TestP11_3CopyIsItsOwn: writing over a copy leaves that of which it is one, and the other way round.
func TestP11_3CopyIsItsOwn(t *testing.T) {
	for at := range 3 {
		want := stock(3, parcel{0, 1, "aa"}, parcel{1, 2, "bb"}, parcel{2, 1, "cc"})
		n := net.Copy(want.net(), at)
		copied := want.list[at].b
		overBytes(n.List[3].B)
		wantNet(t, "the copy written over", net.Drop(n, 3), stock(4, want.list...))
		n = net.Copy(want.net(), at)
		overBytes(n.List[at].B)
		if string(n.List[3].B) != copied {
			t.Fatalf("%q written over makes %q of its copy", copied, n.List[3].B)
		}
	}
}

// TestP11_3AnswersGoOn hands an answer in twice: the one call's packets don't stand in the other's, whatever room there is behind the list.
func TestP11_3AnswersGoOn(t *testing.T) {
	for _, a := range deeds() {
		for _, m := range stocks() {
			n := a.on(roomy(m)).n
			was := model{n.Next, parcels(n)}
			x, y := net.Send(n, 1, []byte("x")), net.Send(n, 2, []byte("y"))
			wantNet(t, fmt.Sprint(a, ", the first"), x, stock(was.next+1, append(was.clone().list, parcel{was.next, 1, "x"})...))
			wantNet(t, fmt.Sprint(a, ", the second"), y, stock(was.next+1, append(was.clone().list, parcel{was.next, 2, "y"})...))
			wantNet(t, fmt.Sprint(a, ", the net"), n, was)
			over(y)
			wantNet(t, fmt.Sprint(a, ", the net, the second written over"), n, was)
		}
	}
}

// TestP11_3SameAtEachCall has it that nothing but the arguments matters: what is called between, and how much room there is.
func TestP11_3SameAtEachCall(t *testing.T) {
	each(func(what string, m model, a act) {
		h := hold(a.on(m.net()))
		for _, b := range deeds() {
			over(b.on(roomy(m)).n)
		}
		again := a.on(roomy(m))
		wantNet(t, what, again.n, h.was)
		if of(again.p) != h.took || again.ok != h.ok {
			t.Fatalf("%s: once more it answers %s, %v", what, one(of(again.p)), again.ok)
		}
	})
}

// TestP11_3WalkWrittenOver goes on with copies of what was answered, and writes over what it leaves behind: all nets, packets and bytes of before.
func TestP11_3WalkWrittenOver(t *testing.T) {
	c := chance(6)
	for walk := range 10 {
		var m model
		n := roomy(m)
		for i := range 600 {
			a := c.act(5+i/150%2, i)
			got := a.on(n)
			p, ok := a.as(&m)
			over(n)
			if of(got.p) != p || got.ok != ok {
				t.Fatalf("walk %d, step %d: %v answers %s, %v; asked for is %s, %v", walk, i, a, one(of(got.p)), got.ok, one(p), ok)
			}
			overBytes(got.p.B)
			wantNet(t, fmt.Sprint("walk ", walk, ", step ", i), got.n, m)
			n = got.n
		}
	}
}
