package net_test

import (
	"fmt"
	"slices"
	"strings"
	"testing"

	"lockgate/api"
	"lockgate/net"
)

// parcel is a packet whose bytes nobody can write over.
type parcel struct {
	id, to int
	b      string
}

// model is a list that is changed by hand, by the chapter's words.
type model struct {
	next int
	list []parcel
}

func (m model) clone() model { return model{m.next, slices.Clone(m.list)} }

func (m *model) send(to int, b string) {
	m.list = append(m.list, parcel{m.next, to, b})
	m.next++
}

// place is the remainder, and false if there is no place at all.
func (m *model) place(i int) (int, bool) {
	if len(m.list) == 0 {
		return 0, false
	}
	times := i / len(m.list)
	return i - times*len(m.list), true
}

func (m *model) take(i int) (parcel, bool) {
	at, ok := m.place(i)
	if !ok {
		return parcel{}, false
	}
	var l []parcel
	for j, p := range m.list {
		if j != at {
			l = append(l, p)
		}
	}
	p := m.list[at]
	m.list = l
	return p, true
}

func (m *model) copy(i int) {
	if at, ok := m.place(i); ok {
		m.send(m.list[at].to, m.list[at].b)
	}
}

func (m *model) cut(to int) {
	var l []parcel
	for _, p := range m.list {
		if p.to == to {
			continue
		}
		l = append(l, p)
	}
	m.list = l
}

// net is a net as the model is, whose memory is its own.
func (m model) net() api.Net {
	n := api.Net{Next: m.next}
	for _, p := range m.list {
		n.List = append(n.List, api.Packet{Id: p.id, To: p.to, B: []byte(p.b)})
	}
	return n
}

// stock is a net of parcels by hand: rising numbers, and a Next behind them.
func stock(next int, l ...parcel) model { return model{next, l} }

// What an act calls.
const (
	sends = iota
	takes
	drops
	copies
	cuts
)

// act is a call: of its place or its receiver a, and of its bytes b.
type act struct {
	kind, a int
	b       string
}

func send(to int, b string) act { return act{sends, to, b} }
func take(i int) act            { return act{takes, i, ""} }
func drop(i int) act            { return act{drops, i, ""} }
func double(i int) act          { return act{copies, i, ""} }
func cut(to int) act            { return act{cuts, to, ""} }

func (a act) String() string {
	name := []string{"Send", "Take", "Drop", "Copy", "Cut"}[a.kind]
	if a.kind == sends {
		return fmt.Sprintf("%s(%d, %s)", name, a.a, brief(a.b))
	}
	return fmt.Sprintf("%s(%d)", name, a.a)
}

// answer has what Take answers beside the net, too: it is zero of other calls.
type answer struct {
	p  api.Packet
	n  api.Net
	ok bool
}

func (a act) on(n api.Net) answer {
	switch a.kind {
	case sends:
		return answer{n: net.Send(n, a.a, []byte(a.b))}
	case takes:
		p, left, ok := net.Take(n, a.a)
		return answer{p, left, ok}
	case drops:
		return answer{n: net.Drop(n, a.a)}
	case copies:
		return answer{n: net.Copy(n, a.a)}
	}
	return answer{n: net.Cut(n, a.a)}
}

// as does the act at the model.
func (a act) as(m *model) (parcel, bool) {
	switch a.kind {
	case sends:
		m.send(a.a, a.b)
	case takes:
		return m.take(a.a)
	case drops:
		m.take(a.a)
	case copies:
		m.copy(a.a)
	case cuts:
		m.cut(a.a)
	}
	return parcel{}, false
}

func of(p api.Packet) parcel { return parcel{p.Id, p.To, string(p.B)} }

// same holds a whole net against a model: Next, and of every packet its number, whom it is to, and its bytes, in their order.
func same(n api.Net, m model) bool {
	if n.Next != m.next || len(n.List) != len(m.list) {
		return false
	}
	for i, p := range n.List {
		if of(p) != m.list[i] {
			return false
		}
	}
	return true
}

func wantNet(t *testing.T, what string, n api.Net, m model) {
	t.Helper()
	if !same(n, m) {
		t.Fatalf("%s: the net is %s; asked for is %s", what, told(n), told(m.net()))
	}
}

// wantDone does the act at both, holds the answer against the model, and answers it.
func wantDone(t *testing.T, what string, a act, n api.Net, m *model) api.Net {
	t.Helper()
	got := a.on(n)
	p, ok := a.as(m)
	if of(got.p) != p || got.ok != ok {
		t.Fatalf("%s: %v answers %s, %v; asked for is %s, %v", what, a, one(of(got.p)), got.ok, one(p), ok)
	}
	if !same(got.n, *m) {
		t.Fatalf("%s: %v leaves %s; asked for is %s", what, a, told(got.n), told(m.net()))
	}
	return got.n
}

func one(p parcel) string { return fmt.Sprintf("%d to %d %s", p.id, p.to, brief(p.b)) }

// told keeps what a test tells short.
func told(n api.Net) string {
	var parts []string
	for _, p := range n.List[:min(len(n.List), 6)] {
		parts = append(parts, one(of(p)))
	}
	if len(n.List) > 6 {
		parts = append(parts, fmt.Sprintf("and %d more", len(n.List)-6))
	}
	return fmt.Sprintf("[%s] next %d", strings.Join(parts, "; "), n.Next)
}

func brief(s string) string {
	if len(s) <= 12 {
		return fmt.Sprintf("%q", s)
	}
	return fmt.Sprintf("%q.. of %d bytes", s[:12], len(s))
}

// chance is the same row of numbers at each run.
type chance uint32

func (c *chance) below(n int) int {
	*c = *c*1664525 + 1013904223
	return int(uint32(*c)>>8) % n
}

// act is one by chance, whose bytes are unlike those of other sends. Out of ten, so many send or copy.
func (c *chance) act(growing, number int) act {
	if c.below(10) < growing {
		if c.below(3) == 0 {
			return double(c.below(1000))
		}
		return send(c.below(4)-1, c.text(number))
	}
	if c.below(30) == 0 {
		return cut(c.below(4) - 1)
	}
	if c.below(2) == 0 {
		return take(c.below(1000))
	}
	return drop(c.below(1000))
}

// text begins with the number, so that none is like another, but for a few with no bytes.
func (c *chance) text(number int) string {
	switch c.below(8) {
	case 0:
		return ""
	case 1:
		return fmt.Sprint(number, strings.Repeat("x", c.below(300)))
	}
	return fmt.Sprint(number, strings.Repeat("y", c.below(10)))
}

// alphabet are acts of which every short row is done.
func alphabet() []act {
	return []act{
		send(0, "a"), send(1, "bc"), send(0, ""),
		take(0), take(1), drop(0), drop(2), double(0), double(1), cut(0), cut(1),
	}
}

// starts are nets from which every short row is done.
func starts() []model {
	return []model{
		stock(0),
		stock(7),
		stock(1, parcel{0, 1, "p"}),
		stock(90, parcel{3, 0, "p"}, parcel{4, 1, "q"}, parcel{17, 0, "r"}),
	}
}

// TestP11_1EveryShortRow holds the whole net behind each call against the list that is changed by hand.
func TestP11_1EveryShortRow(t *testing.T) {
	for i, start := range starts() {
		var more func(row []act, n api.Net, m model)
		most := 4
		if i == 0 {
			most = 5
		}
		more = func(row []act, n api.Net, m model) {
			if len(row) == most {
				return
			}
			for _, a := range alphabet() {
				next := m.clone()
				left := wantDone(t, fmt.Sprint("behind ", row), a, n, &next)
				more(append(slices.Clone(row), a), left, next)
			}
		}
		more(nil, start.net(), start.clone())
	}
}

// TestP11_1LongWalk has nets that grow and shrink, up to some hundred packets.
func TestP11_1LongWalk(t *testing.T) {
	c := chance(1)
	for walk := range 12 {
		var m model
		n := m.net()
		for i := range 1500 {
			growing := 4 + i/100%3
			n = wantDone(t, fmt.Sprint("walk ", walk, ", step ", i), c.act(growing, i), n, &m)
		}
	}
}

// TestP11_1ManyPackets has a net of more packets than any world has.
func TestP11_1ManyPackets(t *testing.T) {
	var m model
	for i := range 50000 {
		m.send(i%3, fmt.Sprint(i))
	}
	n := m.net()
	for _, a := range []act{take(0), take(49998), drop(25000), double(1), send(2, "last"), take(149991), cut(1), cut(0), cut(3), double(0), cut(2), take(0)} {
		n = wantDone(t, "many", a, n, &m)
	}
}
