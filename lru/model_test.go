package lru_test

import (
	"fmt"
	"slices"
	"strconv"
	"strings"
	"testing"

	"lockgate/api"
	"lockgate/lru"
)

// item is one of the number n of an epoch 1; every other one is of a key that there is none of.
func item(key, val string, n int) api.Item {
	return api.Item{Key: key, Val: val, Has: n%2 == 1, Ver: api.Ver(complex(1, float64(n)))}
}

// parse reads an item such as a:xx@2: the key, the value, and the number of its version, which is 1 if it isn't told.
func parse(s string) api.Item {
	s, number, ok := strings.Cut(s, "@")
	n := 1
	if ok {
		n, _ = strconv.Atoi(number)
	}
	key, val, _ := strings.Cut(s, ":")
	return item(key, val, n)
}

// list reads items with gaps between them.
func list(s string) []api.Item {
	var l []api.Item
	for _, part := range strings.Fields(s) {
		l = append(l, parse(part))
	}
	return l
}

// model is a list that is changed by hand, by the chapter's words. No two of its lists share memory.
type model []api.Item

func (m model) clone() model {
	var l model
	for _, x := range m {
		l = append(l, x)
	}
	return l
}

// size lays the texts one behind the other.
func (m model) size() int {
	var b strings.Builder
	for _, x := range m {
		b.WriteString(x.Key + x.Val + ".")
	}
	return b.Len()
}

func (m *model) out(key string) {
	var l model
	for _, x := range *m {
		if x.Key == key {
			continue
		}
		l = append(l, x)
	}
	*m = l
}

func (m *model) put(x api.Item, room int) {
	m.out(x.Key)
	l := append(m.clone(), x)
	for len(l) > 0 && l.size() > room {
		l = l[1:].clone()
	}
	*m = l
}

func (m *model) get(key string) (api.Item, bool) {
	for _, x := range *m {
		if x.Key == key {
			m.out(key)
			*m = append(m.clone(), x)
			return x, true
		}
	}
	return api.Item{}, false
}

// What an act calls.
const (
	puts = iota
	gets
	outs
)

// act is a call: Get's and Out's key is x's.
type act struct {
	kind, room int
	x          api.Item
}

func put(x string, room int) act { return act{puts, room, parse(x)} }
func get(key string) act         { return act{gets, 0, api.Item{Key: key}} }
func out(key string) act         { return act{outs, 0, api.Item{Key: key}} }

func (a act) String() string {
	switch a.kind {
	case puts:
		return fmt.Sprintf("Put(%s, %d)", one(a.x), a.room)
	case gets:
		return "Get(" + brief(a.x.Key) + ")"
	}
	return "Out(" + brief(a.x.Key) + ")"
}

// answer has what Get answers beside the list, too: it is zero of other calls.
type answer struct {
	x  api.Item
	l  []api.Item
	ok bool
}

func (a act) on(l []api.Item) answer {
	switch a.kind {
	case puts:
		return answer{l: lru.Put(l, a.x, a.room)}
	case gets:
		x, left, ok := lru.Get(l, a.x.Key)
		return answer{x, left, ok}
	}
	return answer{l: lru.Out(l, a.x.Key)}
}

// as does the act at the model.
func (a act) as(m *model) (api.Item, bool) {
	switch a.kind {
	case puts:
		m.put(a.x, a.room)
	case gets:
		return m.get(a.x.Key)
	case outs:
		m.out(a.x.Key)
	}
	return api.Item{}, false
}

// same holds a whole list against a model: of every item all that it has, in their order.
func same(l []api.Item, m model) bool {
	if len(l) != len(m) {
		return false
	}
	for i, x := range l {
		if x != m[i] {
			return false
		}
	}
	return true
}

func wantList(t *testing.T, what any, l []api.Item, m model) {
	t.Helper()
	if !same(l, m) {
		t.Fatalf("%v: the list is %s; asked for is %s", what, told(l), told(m))
	}
}

// wantDone does the act at both, holds the answer and its size against the model, and answers it.
func wantDone(t *testing.T, what any, a act, l []api.Item, m *model) []api.Item {
	t.Helper()
	got := a.on(l)
	x, ok := a.as(m)
	if got.x != x || got.ok != ok {
		t.Fatalf("%v: %v answers %s, %v; asked for is %s, %v", what, a, one(got.x), got.ok, one(x), ok)
	}
	if !same(got.l, *m) {
		t.Fatalf("%v: %v of %s leaves %s; asked for is %s", what, a, told(l), told(got.l), told(*m))
	}
	if n := lru.Size(got.l); n != m.size() {
		t.Fatalf("%v: Size says %d of %s; asked for is %d", what, n, told(got.l), m.size())
	}
	return got.l
}

func one(x api.Item) string {
	return fmt.Sprintf("%s:%s@%v,%v", brief(x.Key), brief(x.Val), x.Ver, x.Has)
}

// told keeps what a test tells short.
func told(l []api.Item) string {
	var parts []string
	for _, x := range l[:min(len(l), 6)] {
		parts = append(parts, one(x))
	}
	if len(l) > 6 {
		parts = append(parts, fmt.Sprintf("and %d more", len(l)-6))
	}
	return "[" + strings.Join(parts, "; ") + "]"
}

func brief(s string) string {
	if len(s) <= 12 {
		return fmt.Sprintf("%q", s)
	}
	return fmt.Sprintf("%q.. of %d bytes", s[:12], len(s))
}

// chance is the same row of numbers at each run.
type chance uint32

func (c *chance) below(n int) int {
	*c = *c*1664525 + 1013904223
	return int(uint32(*c)>>8) % n
}

// act is one by chance, of so many keys; an item that is laid is of that number.
func (c *chance) act(keys, room, number int) act {
	key := c.key(keys)
	switch c.below(8) {
	case 0:
		return out(key)
	case 1, 2, 3:
		return get(key)
	}
	return act{puts, room, item(key, c.val(), number)}
}

// key is one of so many; the first one is empty, and some begin others.
func (c *chance) key(keys int) string {
	return strconv.Itoa(10 + c.below(keys))[1:]
}

func (c *chance) val() string {
	return strings.Repeat("v", c.below(5)*c.below(5))
}

// alphabet are acts of which every short row is done, the items of the number n.
func alphabet(n int) []act {
	l := []act{
		put("a:", 4), put("a:xx", 6), put("b:x", 6), put("b:xxxxx", 7), put("b:xxxxxx", 7),
		put("ab:", 5), put(":", 3), put(":x", 100), put("c:", 0), put("a:x", -1),
		get("a"), get("b"), get("ab"), get(""), get("z"), out("a"), out("b"), out("ab"), out(""), out("z"),
	}
	for i := range l {
		if l[i].kind == puts {
			l[i].x = item(l[i].x.Key, l[i].x.Val, n)
		}
	}
	return l
}

// starts are lists from which every short row is done.
func starts() []model {
	return []model{
		list(""),
		list("a:x@90"),
		list("ab:@91 a:@92 b:xxx@93 :@94"),
		list("b:longer.than.the.room@95 z:@96 a:x@97 c:@98"),
	}
}

// TestP12_1EveryShortRow holds the whole list behind each call against the one that is changed by hand.
func TestP12_1EveryShortRow(t *testing.T) {
	for i, start := range starts() {
		most := 3
		if i == 0 {
			most = 4
		}
		var more func(row []act, l []api.Item, m model)
		more = func(row []act, l []api.Item, m model) {
			if len(row) == most {
				return
			}
			for _, a := range alphabet(len(row)) {
				next := m.clone()
				left := wantDone(t, row, a, l, &next)
				more(append(slices.Clone(row), a), left, next)
			}
		}
		more(nil, start.clone(), start.clone())
	}
}

// TestP12_1LongWalk has rooms for no item up to rooms for all, which change on the way.
func TestP12_1LongWalk(t *testing.T) {
	c := chance(1)
	for _, keys := range []int{2, 5, 30, 200} {
		for _, room := range []int{0, 7, 20, 60, 400, 1 << 20} {
			var m model
			l := m.clone()
			for i := range 700 {
				what := fmt.Sprint(keys, " keys, room ", room, ", step ", i)
				now := room - i/100%3*room/4
				l = wantDone(t, what, c.act(keys, now, i), l, &m)
			}
		}
	}
}
