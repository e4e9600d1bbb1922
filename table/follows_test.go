package table_test

import (
	"fmt"
	"testing"

	"lockgate/api"
	"lockgate/table"
)

// P9.2: what follows.

func TestP9_2AppliedTwiceIsAppliedOnce(t *testing.T) {
	c := chance(3)
	for i := range 10000 {
		l, floor, es := c.rows(4), c.ver(3), c.entries(c.below(8), 4)
		once := table.Apply(l, floor, es)
		wantRows(t, fmt.Sprint("in two calls ", i), table.Apply(once, floor, es), once)
		wantRows(t, fmt.Sprint("in one call ", i), table.Apply(l, floor, append(es[:len(es):len(es)], es...)), once)
		for _, e := range es {
			wantRows(t, fmt.Sprint("one once more ", i), table.Apply(once, floor, []api.Entry{e}), once)
		}
	}
}

// unlike are entries of unlike versions, of few keys.
func (c *chance) unlike(n int) []api.Entry {
	all := []int{1001, 1002, 1003, 2001, 2002, 3000, 3001, 3005}
	var es []api.Entry
	for range n {
		at := c.below(len(all))
		e := c.entry(1)
		e.Key = keys[c.below(3)]
		e.Ver = v(all[at]/1000, all[at]%1000)
		all = append(all[:at:at], all[at+1:]...)
		es = append(es, e)
	}
	return es
}

func TestP9_2OrderIsNothing(t *testing.T) {
	c := chance(4)
	for i := range 200 {
		l, floor, es := c.rows(4), c.ver(3), c.unlike(c.below(6))
		want := of(l).applyAll(floor, es).list()
		orders(es, func(row []api.Entry) {
			wantRows(t, fmt.Sprint("at once ", i), table.Apply(l, floor, row), want)
			for at := range len(row) + 1 {
				part := table.Apply(l, floor, row[:at])
				wantRows(t, fmt.Sprint("in two parts ", i, at), table.Apply(part, floor, row[at:]), want)
			}
		})
	}
}

// TestP9_2OneByOneIsAtOnce has entries of like versions, too: one behind the other is at once.
func TestP9_2OneByOneIsAtOnce(t *testing.T) {
	c := chance(5)
	for i := range 5000 {
		l, floor, es := c.rows(3), c.ver(3), c.entries(c.below(10), 3)
		one := l
		for _, e := range es {
			one = table.Apply(one, floor, []api.Entry{e})
		}
		wantRows(t, fmt.Sprint("walk ", i), table.Apply(l, floor, es), one)
	}
}

func TestP9_2NoVersionFalls(t *testing.T) {
	c := chance(6)
	for i := range 10000 {
		l, floor, es := c.rows(4), c.ver(5), c.entries(c.below(8), 5)
		got := table.Apply(l, floor, es)
		for _, r := range l {
			now, ok := table.Find(got, r.Key)
			if !ok || behind(r.Ver, now.Ver) {
				t.Fatalf("walk %d: %s became %s, %v", i, one(r), one(now), ok)
			}
			if now.Ver == r.Ver && now != r {
				t.Fatalf("walk %d: %s became %s of the same version", i, one(r), one(now))
			}
		}
	}
}

// TestP9_2CollectedStaysAway applies what isn't behind the floor to what was collected with it.
func TestP9_2CollectedStaysAway(t *testing.T) {
	c := chance(7)
	for i := range 5000 {
		l, floor := c.rows(4), c.ver(5)
		left := table.Collect(l, floor)
		es := c.entries(c.below(10), 5)
		for j := range es {
			if behind(es[j].Ver, floor) {
				es[j].Ver = floor
			}
		}
		wantRows(t, fmt.Sprint("walk ", i), table.Apply(left, floor, es), left)
	}
}

// TestP9_2CollectedOrNot has it that readers see the same of a key, whether or not its deletion was collected ahead of more entries.
func TestP9_2CollectedOrNot(t *testing.T) {
	c := chance(8)
	for i := range 5000 {
		l, floor, es := c.rows(4), c.ver(5), c.entries(c.below(10), 6)
		early := table.Collect(table.Apply(table.Collect(l, floor), floor, es), floor)
		wantRows(t, fmt.Sprint("walk ", i), early, table.Collect(table.Apply(l, floor, es), floor))
	}
}

func TestP9_2CollectLeavesOthers(t *testing.T) {
	c := chance(9)
	for i := range 5000 {
		l, floor := c.rows(4), c.ver(5)
		left := table.Collect(l, floor)
		for _, r := range l {
			if r.Del && !behind(r.Ver, floor) {
				wantFound(t, left, r.Key, api.Row{}, false)
				continue
			}
			wantFound(t, left, r.Key, r, true)
		}
		wantRows(t, fmt.Sprint("collected twice ", i), table.Collect(left, floor), left)
	}
}

// TestP9_2LongWalk goes on with what was answered, as a store does: floors rise, entries come late and doubled.
func TestP9_2LongWalk(t *testing.T) {
	c := chance(10)
	for range 20 {
		var l []api.Row
		m := of(nil)
		floor := api.Ver(0)
		for i := range 300 {
			es := c.entries(c.below(6), 8)
			l = table.Apply(l, floor, es)
			m.applyAll(floor, es)
			wantRows(t, fmt.Sprint("applied ", i), l, m.list())
			if x := c.ver(8); c.below(20) == 0 && behind(x, floor) {
				floor = x
			}
			l = table.Collect(l, floor)
			m.collect(floor)
			wantRows(t, fmt.Sprint("collected ", i), l, m.list())
		}
	}
}
