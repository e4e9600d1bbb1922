package net_test

import (
	"fmt"
	"math"
	"strings"
	"testing"

	"lockgate/api"
	"lockgate/net"
)

// letters is a net of one packet a letter, all to 5.
func letters(s string) model {
	var m model
	for _, r := range s {
		m.send(5, string(r))
	}
	return m
}

// row tells the packets' bytes, one behind the other.
func row(n api.Net) string {
	s := ""
	for _, p := range n.List {
		s += string(p.B)
	}
	return s
}

// TestP11_1Example is the chapter's.
func TestP11_1Example(t *testing.T) {
	n := net.Send(api.Net{}, 2, []byte("a"))
	n = net.Send(n, 3, []byte("b"))
	n = net.Copy(n, 0)
	wantNet(t, "the example", n, stock(3, parcel{0, 2, "a"}, parcel{1, 3, "b"}, parcel{2, 2, "a"}))
	p, left, ok := net.Take(n, 4)
	if of(p) != (parcel{1, 3, "b"}) || !ok {
		t.Fatalf("Take(4) answers %s, %v", one(of(p)), ok)
	}
	wantNet(t, "behind Take(4)", left, stock(3, parcel{0, 2, "a"}, parcel{2, 2, "a"}))
}

func TestP11_1Send(t *testing.T) {
	for _, x := range []struct {
		n    model
		to   int
		b    string
		want model
	}{
		{stock(0), 2, "a", stock(1, parcel{0, 2, "a"})},
		{stock(9), 2, "a", stock(10, parcel{9, 2, "a"})},
		{stock(1 << 62), 2, "a", stock(1<<62+1, parcel{1 << 62, 2, "a"})},
		{stock(1, parcel{0, 2, "a"}), 2, "b", stock(2, parcel{0, 2, "a"}, parcel{1, 2, "b"})},
		{stock(1, parcel{0, 2, "a"}), 2, "a", stock(2, parcel{0, 2, "a"}, parcel{1, 2, "a"})},
		{stock(1, parcel{0, 2, "a"}), 3, "", stock(2, parcel{0, 2, "a"}, parcel{1, 3, ""})},
		{stock(8, parcel{0, 2, "a"}, parcel{5, 3, "b"}), 4, "c", stock(9, parcel{0, 2, "a"}, parcel{5, 3, "b"}, parcel{8, 4, "c"})},
		{stock(1<<62, parcel{1<<62 - 1, 2, "a"}), 3, "b", stock(1<<62+1, parcel{1<<62 - 1, 2, "a"}, parcel{1 << 62, 3, "b"})},
	} {
		wantNet(t, fmt.Sprint(x.n, send(x.to, x.b)), net.Send(x.n.net(), x.to, []byte(x.b)), x.want)
	}
}

func TestP11_1TakeAndDrop(t *testing.T) {
	a, b, c := parcel{2, 0, "a"}, parcel{3, 1, "b"}, parcel{9, 0, "c"}
	all := stock(12, a, b, c)
	for _, x := range []struct {
		n    model
		i    int
		p    parcel
		left model
	}{
		{all, 0, a, stock(12, b, c)},
		{all, 1, b, stock(12, a, c)},
		{all, 2, c, stock(12, a, b)},
		{all, 3, a, stock(12, b, c)},
		{all, 4, b, stock(12, a, c)},
		{all, 5, c, stock(12, a, b)},
		{all, 300, a, stock(12, b, c)},
		{stock(12, c), 0, c, stock(12)},
		{stock(12, c), 1, c, stock(12)},
		{stock(1<<62, c), math.MaxInt, c, stock(1 << 62)},
		{stock(12, a, b), math.MaxInt, b, stock(12, a)},
	} {
		what := fmt.Sprint(x.n, " at ", x.i)
		p, left, ok := net.Take(x.n.net(), x.i)
		if of(p) != x.p || !ok {
			t.Fatalf("Take of %s answers %s, %v; asked for is %s", what, one(of(p)), ok, one(x.p))
		}
		wantNet(t, "Take of "+what, left, x.left)
		wantNet(t, "Drop of "+what, net.Drop(x.n.net(), x.i), x.left)
	}
}

func TestP11_1Copy(t *testing.T) {
	a, b := parcel{2, 0, "a"}, parcel{3, 1, "b"}
	for _, x := range []struct {
		n    model
		i    int
		want model
	}{
		{stock(4, a), 0, stock(5, a, parcel{4, 0, "a"})},
		{stock(4, a), 7, stock(5, a, parcel{4, 0, "a"})},
		{stock(4, a, b), 0, stock(5, a, b, parcel{4, 0, "a"})},
		{stock(4, a, b), 1, stock(5, a, b, parcel{4, 1, "b"})},
		{stock(4, a, b), 2, stock(5, a, b, parcel{4, 0, "a"})},
		{stock(90, a, b), 3, stock(91, a, b, parcel{90, 1, "b"})},
		{stock(1<<62, a, b), math.MaxInt, stock(1<<62+1, a, b, parcel{1 << 62, 1, "b"})},
	} {
		wantNet(t, fmt.Sprint(x.n, double(x.i)), net.Copy(x.n.net(), x.i), x.want)
	}
}

func TestP11_1Cut(t *testing.T) {
	a, b, c, d := parcel{0, 2, "a"}, parcel{1, 3, "b"}, parcel{4, 2, "c"}, parcel{6, 2, "d"}
	for _, x := range []struct {
		n    model
		to   int
		want model
	}{
		{stock(0), 0, stock(0)},
		{stock(8), 2, stock(8)},
		{stock(7, a, b, c, d), 0, stock(7, a, b, c, d)},
		{stock(7, a, b, c, d), 4, stock(7, a, b, c, d)},
		{stock(7, a, b, c, d), -2, stock(7, a, b, c, d)},
		{stock(7, a, b, c, d), 3, stock(7, a, c, d)},
		{stock(7, a, b, c, d), 2, stock(7, b)},
		{stock(7, a, b), 2, stock(7, b)},
		{stock(7, b, c), 2, stock(7, b)},
		{stock(7, a, c, d), 2, stock(7)},
		{stock(7, b), 3, stock(7)},
		{stock(1<<62, b), 3, stock(1 << 62)},
	} {
		wantNet(t, fmt.Sprint(x.n, cut(x.to)), net.Cut(x.n.net(), x.to), x.want)
	}
}

// nothings are the nets of no packet: no list, an empty one, and one with packets in the room behind it.
func nothings(next int) []api.Net {
	room := []api.Packet{{Id: 1, To: 2, B: []byte("room")}, {Id: 2, To: 3, B: []byte("more")}}
	return []api.Net{{Next: next}, {Next: next, List: []api.Packet{}}, {Next: next, List: room[:0]}}
}

func TestP11_1NetOfNoPacket(t *testing.T) {
	for _, next := range []int{0, 1, 9, 1 << 62} {
		for k, n := range nothings(next) {
			for _, i := range []int{0, 1, 2, 77, math.MaxInt} {
				for _, a := range []act{take(i), drop(i), double(i), cut(i), cut(-i), send(i, "x")} {
					m := stock(next)
					wantDone(t, fmt.Sprint("no packet ", k, ", Next ", next), a, n, &m)
				}
			}
		}
	}
}

// places are 0, n-1, n, n+1, several times n, and the greatest ones, of n packets.
func places(n int) []int {
	l := []int{0, n / 2, n - 1, n, n + 1, 2*n - 1, 2 * n, 2*n + 1, 5 * n, 1000*n - 1, 1000 * n, 1<<31 - 1, 1 << 31, 1<<32 + 1}
	return append(l, math.MaxInt/n*n-1, math.MaxInt/n*n, math.MaxInt-1, math.MaxInt)
}

// TestP11_1Places has nets whose packets are all unlike.
func TestP11_1Places(t *testing.T) {
	for _, n := range []int{1, 2, 3, 4, 5, 7, 8, 10, 16, 100} {
		m := stock(3)
		for j := range n {
			m.send(j%3, fmt.Sprint("packet ", j))
		}
		for _, i := range places(n) {
			for _, a := range []act{take(i), drop(i), double(i)} {
				left := m.clone()
				wantDone(t, fmt.Sprint(n, " packets"), a, m.net(), &left)
			}
		}
	}
}

// TestP11_1PlacesOneBehindTheOther takes the same place again and again: the remainder is of what is left.
func TestP11_1PlacesOneBehindTheOther(t *testing.T) {
	for _, x := range []struct {
		i    int
		want string
	}{{0, "abcde"}, {1, "bcdea"}, {2, "cdeab"}, {4, "eacbd"}, {5, "acedb"}} {
		n := letters("abcde").net()
		got := ""
		for len(n.List) > 0 {
			p, left, ok := net.Take(n, x.i)
			if !ok {
				t.Fatalf("Take(%d) answers false of %s", x.i, told(n))
			}
			got, n = got+string(p.B), left
		}
		if got != x.want {
			t.Fatalf("Take(%d) again and again takes %s, not %s", x.i, got, x.want)
		}
	}
}

// loads are bytes of all lengths and kinds, two of them the same.
func loads() []string {
	every := make([]byte, 256)
	for i := range every {
		every[i] = byte(i)
	}
	l := []string{"", "a", "a", "\x00", "\xff", "\xc3", "\x00\x00", string(every), strings.Repeat("long", 1<<14), ""}
	return append(l, string(every[:100])+strings.Repeat("z", 1<<20), "end")
}

func TestP11_1Bytes(t *testing.T) {
	var m model
	n := m.net()
	for i, b := range loads() {
		n = wantDone(t, fmt.Sprint("load ", i), send(i%2, b), n, &m)
	}
	for i := range loads() {
		left := m.clone()
		wantDone(t, "loads", double(i), n, &left)
		left = m.clone()
		wantDone(t, "loads", drop(i), n, &left)
	}
	for i := range loads() {
		n = wantDone(t, "loads", take(i), n, &m)
	}
	wantNet(t, "the end", n, stock(len(loads())))
}

// TestP11_1NilBytes: no bytes are no bytes, however they are handed in.
func TestP11_1NilBytes(t *testing.T) {
	for _, b := range [][]byte{nil, {}, make([]byte, 0, 9)} {
		n := net.Send(api.Net{}, 1, b)
		wantNet(t, "sent", n, stock(1, parcel{0, 1, ""}))
		handed := api.Net{Next: 1, List: []api.Packet{{Id: 0, To: 1, B: b}}}
		wantNet(t, "copied", net.Copy(handed, 0), stock(2, parcel{0, 1, ""}, parcel{1, 1, ""}))
		wantNet(t, "cut", net.Cut(handed, 2), stock(1, parcel{0, 1, ""}))
		p, left, ok := net.Take(handed, 0)
		if of(p) != (parcel{0, 1, ""}) || !ok {
			t.Fatalf("taken: %s, %v", one(of(p)), ok)
		}
		wantNet(t, "taken", left, stock(1))
	}
}

var receivers = []int{0, 1, -1, 2, 99, 100, -100, math.MinInt, math.MaxInt, math.MinInt + 1, math.MaxInt - 1, 1 << 32}

// TestP11_1Receivers sends to each one twice, and cuts each one's alone.
func TestP11_1Receivers(t *testing.T) {
	var m model
	n := m.net()
	for _, to := range append(receivers, receivers...) {
		n = wantDone(t, "receivers", send(to, fmt.Sprint("to ", to)), n, &m)
	}
	for i, to := range receivers {
		left := m.clone()
		wantDone(t, "receivers", cut(to), n, &left)
		if len(left.list) != 2*len(receivers)-2 {
			t.Fatalf("Cut(%d) leaves %d packets", to, len(left.list))
		}
		left = m.clone()
		wantDone(t, "receivers", double(i), n, &left)
		left = m.clone()
		wantDone(t, "receivers", take(i), n, &left)
	}
	for _, to := range receivers {
		n = wantDone(t, "receivers", cut(to), n, &m)
	}
	wantNet(t, "all cut", n, stock(2*len(receivers)))
}

// TestP11_1EveryCut has nets of up to 6 packets, to two processes in every order.
func TestP11_1EveryCut(t *testing.T) {
	for count := range 7 {
		for bits := range 1 << count {
			m := stock(1)
			for j := range count {
				m.send(bits>>j&1, fmt.Sprint(j))
			}
			for _, to := range []int{0, 1, 2} {
				left := m.clone()
				wantDone(t, fmt.Sprintf("%0*b", count, bits), cut(to), m.net(), &left)
			}
		}
	}
}

// gaps are nets whose numbers have gaps, and whose Next lies further behind.
func gaps() []model {
	return []model{
		stock(1, parcel{0, 2, "a"}),
		stock(50, parcel{0, 2, "a"}),
		stock(50, parcel{49, 2, "a"}),
		stock(50, parcel{1, 2, "a"}, parcel{3, 3, "b"}, parcel{40, 2, "c"}),
		stock(1<<62, parcel{0, 3, "a"}, parcel{1 << 40, 2, "b"}, parcel{1<<62 - 1, 3, "c"}),
		stock(1<<62, parcel{1<<62 - 3, 2, "a"}, parcel{1<<62 - 2, 2, "b"}),
	}
}

func TestP11_1Gaps(t *testing.T) {
	for _, m := range gaps() {
		for _, a := range []act{send(2, "new"), take(0), take(1), take(2), drop(0), drop(1), drop(2), double(0), double(1), double(2), cut(2), cut(3), cut(4)} {
			left := m.clone()
			n := wantDone(t, fmt.Sprint("gaps ", m), a, m.net(), &left)
			wantDone(t, fmt.Sprint("gaps ", m, ", then ", a), take(1), n, &left)
		}
	}
}

func TestP11_1CopyOfACopy(t *testing.T) {
	n := net.Copy(net.Copy(stock(4, parcel{3, 2, "a"}).net(), 0), 1)
	wantNet(t, "a copy of a copy", n, stock(6, parcel{3, 2, "a"}, parcel{4, 2, "a"}, parcel{5, 2, "a"}))
	n = net.Copy(net.Drop(n, 0), 1)
	wantNet(t, "the first one dropped", n, stock(7, parcel{4, 2, "a"}, parcel{5, 2, "a"}, parcel{6, 2, "a"}))
}

// TestP11_1CopyOfWhatGoes: a copy stays when that of which it is one goes, and the other way round.
func TestP11_1CopyOfWhatGoes(t *testing.T) {
	m := stock(9, parcel{1, 2, "other"}, parcel{5, 3, "first"})
	n := net.Copy(m.net(), 1)
	for _, a := range []act{take(1), drop(1)} {
		left := stock(10, parcel{1, 2, "other"}, parcel{9, 3, "first"})
		got := a.on(n).n
		wantNet(t, fmt.Sprint("the first one's ", a), got, left)
		wantNet(t, "the copy's copy", net.Copy(got, 1), stock(11, append(left.list, parcel{10, 3, "first"})...))
	}
	for _, a := range []act{take(2), drop(2)} {
		wantNet(t, fmt.Sprint("the copy's ", a), a.on(n).n, stock(10, m.list...))
	}
	wantNet(t, "both cut", net.Cut(n, 3), stock(10, parcel{1, 2, "other"}))
	wantNet(t, "none cut", net.Cut(n, 4), stock(10, parcel{1, 2, "other"}, parcel{5, 3, "first"}, parcel{9, 3, "first"}))
}

// TestP1NetsOfNoPromise: nothing is promised of these, but that nothing panics.
func TestP1NetsOfNoPromise(t *testing.T) {
	ends := []int{math.MinInt, math.MinInt + 1, -1 << 32, -7, -3, -2, -1, 0, 1, 5, math.MaxInt}
	b := []byte("bytes")
	var nets []api.Net
	for _, next := range ends {
		nets = append(nets, nothings(next)...)
		nets = append(nets,
			api.Net{Next: next, List: []api.Packet{{Id: 9, To: 1, B: b}}},
			api.Net{Next: next, List: []api.Packet{{Id: 9, To: 1, B: b}, {Id: 9, To: 1, B: b}}},
			api.Net{Next: next, List: []api.Packet{{Id: -9}, {Id: math.MinInt, To: -1, B: b[:2]}, {Id: math.MaxInt, To: 7, B: b[2:]}}},
		)
	}
	for _, n := range nets {
		for _, i := range ends {
			for _, a := range []act{send(i, "x"), take(i), drop(i), double(i), cut(i)} {
				a.on(n)
			}
		}
	}
}

// TestP1NoPlaceBelowNought: below 0 there is no place, so there is nothing to take, drop or copy.
func TestP1NoPlaceBelowNought(t *testing.T) {
	m := letters("abc")
	for _, i := range []int{-1, -2, -3, -4, math.MinInt} {
		p, n, ok := net.Take(m.net(), i)
		if of(p) != (parcel{}) || ok {
			t.Fatalf("Take(%d) answers %s, %v", i, one(of(p)), ok)
		}
		for _, left := range []api.Net{n, net.Drop(m.net(), i), net.Copy(m.net(), i)} {
			if row(left) != "abc" || left.Next != 3 {
				t.Fatalf("the place %d leaves %s", i, told(left))
			}
		}
	}
}
