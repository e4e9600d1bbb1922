package lru_test

import (
	"cmp"
	"fmt"
	"maps"
	"slices"
	"testing"

	"lockgate/api"
	"lockgate/lru"
)

// P12.2: what follows.

// ledger has of every key the step at which it was laid or got last, and the item that was laid.
type ledger struct {
	now  int
	last map[string]int
	laid map[string]api.Item
}

// opened has the items of the list as if they were laid one behind the other.
func opened(m model) ledger {
	g := ledger{0, map[string]int{}, map[string]api.Item{}}
	for _, x := range m {
		g.lay(x)
	}
	return g
}

func (g ledger) clone() ledger {
	return ledger{g.now, maps.Clone(g.last), maps.Clone(g.laid)}
}

func (g *ledger) lay(x api.Item) {
	g.now++
	g.last[x.Key], g.laid[x.Key] = g.now, x
}

// fault tells what of the list isn't as it was laid, or doesn't stand as it was laid and got.
func (g ledger) fault(l []api.Item) string {
	for i, x := range l {
		if want, ok := g.laid[x.Key]; !ok || x != want {
			return fmt.Sprint("the item ", one(x), " was laid as ", one(want))
		}
		if i > 0 && g.last[x.Key] <= g.last[l[i-1].Key] {
			return fmt.Sprint("the item ", one(x), " stands behind ", one(l[i-1]))
		}
	}
	return ""
}

// faultOfPut tells what went that needn't, or stays that mustn't, or went ahead of what stood ahead of it.
func (g ledger) faultOfPut(before, after []api.Item, x api.Item, room int) string {
	size := model(after).size()
	if size > max(room, 0) {
		return fmt.Sprint("the size is ", size)
	}
	laid := model(before).clone()
	laid.out(x.Key)
	laid = append(laid, x)
	went := len(laid) - len(after)
	if went < 0 || !same(after, laid[went:]) {
		return "what stays isn't the end of what stood there"
	}
	if went > 0 && size+(laid[went-1:went]).size() <= room {
		return fmt.Sprint("there is room for ", one(laid[went-1]), ", too")
	}
	return ""
}

// faultOfSize holds the sizes that Size says behind an act against those ahead of it.
func faultOfSize(a act, before, after []api.Item) string {
	want := lru.Size(before)
	for _, x := range before {
		if a.kind == outs && x.Key == a.x.Key {
			want -= lru.Size([]api.Item{x})
		}
	}
	if n := lru.Size(after); a.kind != puts && n != want {
		return fmt.Sprint("Size says ", n, ", not ", want)
	}
	return ""
}

// step does the act, and asks for what follows.
func (g *ledger) step(t *testing.T, what any, a act, l []api.Item) []api.Item {
	t.Helper()
	got := a.on(l)
	if a.kind == puts {
		g.lay(a.x)
		if s := g.faultOfPut(l, got.l, a.x, a.room); s != "" {
			t.Fatalf("%v: %v of %s: %s", what, a, told(l), s)
		}
	}
	if got.ok {
		if want := g.laid[a.x.Key]; got.x != want {
			t.Fatalf("%v: %v answers %s, which was laid as %s", what, a, one(got.x), one(want))
		}
		g.lay(got.x)
	}
	if s := g.fault(got.l); s != "" {
		t.Fatalf("%v: %v of %s: %s", what, a, told(l), s)
	}
	if s := faultOfSize(a, l, got.l); s != "" {
		t.Fatalf("%v: %v of %s: %s", what, a, told(l), s)
	}
	return got.l
}

func TestP12_2EveryShortRow(t *testing.T) {
	for _, start := range starts() {
		var more func(row []act, g ledger, l []api.Item)
		more = func(row []act, g ledger, l []api.Item) {
			if len(row) == 3 {
				return
			}
			for _, a := range alphabet(len(row)) {
				g := g.clone()
				left := g.step(t, row, a, l)
				more(append(slices.Clone(row), a), g, left)
			}
		}
		more(nil, opened(start), start.clone())
	}
}

func TestP12_2LongWalk(t *testing.T) {
	c := chance(2)
	for walk := range 20 {
		g := opened(nil)
		var l []api.Item
		for i := range 1000 {
			room := c.below(100) - 5
			if walk%2 == 0 {
				room = 50 * walk
			}
			l = g.step(t, fmt.Sprint("walk ", walk, ", step ", i), c.act(3+walk*3, room, i), l)
		}
	}
}

// TestP12_2EveryRoom has lists by chance, and every room up to more than all.
func TestP12_2EveryRoom(t *testing.T) {
	c := chance(3)
	for i := range 40 {
		m := c.list(8)
		x := item(c.key(10), c.val(), i)
		for room := -2; room < m.size()+20; room++ {
			g := opened(m)
			g.step(t, fmt.Sprint("list ", i), act{puts, room, x}, m.clone())
		}
	}
}

// list is one of at most so many items, no two of one key.
func (c *chance) list(most int) model {
	var m model
	for i := range c.below(most + 1) {
		x := item(c.key(10), c.val(), i)
		m.out(x.Key)
		m = append(m, x)
	}
	return m
}

// TestP12_2WhatWasGotGoesLast gets keys in every short order, and then lays items until all have gone.
func TestP12_2WhatWasGotGoesLast(t *testing.T) {
	const keys = "abcde"
	for i := range 5 * 5 * 5 * 5 {
		rest := i
		l := []api.Item(list("a:xx b:xx c:xx d:xx e:xx"))
		got := map[byte]int{}
		row := ""
		for step := range 4 {
			key := keys[rest%5]
			rest /= 5
			_, l, _ = lru.Get(l, string(key))
			got[key] = step + 1
			row += string(key)
		}
		want := []byte(keys)
		slices.SortStableFunc(want, func(a, b byte) int { return cmp.Compare(got[a], got[b]) })
		went := gone(l)
		if went != string(want) {
			t.Fatalf("behind the Gets of %s the items go as %s, not %s", row, went, want)
		}
	}
}

// gone tells the keys in the order in which they go, when items as great are laid one by one, with the room that there is just now.
func gone(l []api.Item) string {
	went := ""
	for i := range len(l) {
		first := l[0].Key
		m := lru.Put(l, item(fmt.Sprint(i), "xx", i), lru.Size(l))
		if _, left, ok := lru.Get(m, first); ok || len(left) != len(l) {
			return went + "?"
		}
		went, l = went+first, m
	}
	return went
}

// TestP12_2PutIsGetsLike: what was laid last goes as late as what was got last.
func TestP12_2PutIsGetsLike(t *testing.T) {
	c := chance(4)
	for i := range 500 {
		m := c.list(8)
		for _, x := range m {
			_, left, _ := lru.Get(m.clone(), x.Key)
			wantList(t, fmt.Sprint("list ", i), lru.Put(m.clone(), x, m.size()), model(left))
		}
	}
}

// TestP12_2OutAheadOfPut: what stood there of the key doesn't matter.
func TestP12_2OutAheadOfPut(t *testing.T) {
	c := chance(5)
	for i := range 500 {
		m := c.list(8)
		x := item(c.key(10), c.val(), i)
		room := c.below(60) - 2
		wantList(t, fmt.Sprint("list ", i, ", room ", room), lru.Put(lru.Out(m.clone(), x.Key), x, room), model(lru.Put(m.clone(), x, room)))
	}
}

// TestP12_2LessAndLessRoom: laid again with less room there stays what stays of less room at once.
func TestP12_2LessAndLessRoom(t *testing.T) {
	c := chance(6)
	for i := range 200 {
		m := c.list(8)
		x := item(c.key(10), c.val(), i)
		l := m.clone()
		for room := m.size() + 20; room >= -1; room-- {
			l = lru.Put(l, x, room)
			wantList(t, fmt.Sprint("list ", i, ", room ", room), l, model(lru.Put(m.clone(), x, room)))
		}
	}
}

// TestP12_2OneItemOfAKey lays few keys again and again, and gets them between.
func TestP12_2OneItemOfAKey(t *testing.T) {
	c := chance(7)
	var l []api.Item
	for i := range 2000 {
		l = c.act(4, 30, i).on(l).l
		seen := map[string]int{}
		for _, x := range l {
			if seen[x.Key]++; seen[x.Key] > 1 {
				t.Fatalf("step %d: of %q there are two items in %s", i, x.Key, told(l))
			}
		}
	}
}
