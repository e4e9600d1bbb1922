package table_test

import (
	"fmt"
	"slices"
	"testing"

	"lockgate/api"
	"lockgate/table"
)

// P9.3: what is handed in stays, what is answered is new memory.

// roomy has room behind the rows, with others' rows in it.
func roomy(l []api.Row) []api.Row {
	return append(slices.Clone(l), has("room", 8, 8, "behind"), gone("room too", 9, 9), has("zz", 7, 7, "last"))[:len(l)]
}

func roomyEntries(es []api.Entry) []api.Entry {
	return append(slices.Clone(es), put("room", 8, 8, "behind"), del("room too", 9, 9))[:len(es)]
}

// over writes over a list, and over what there is room for behind it.
func over(l []api.Row) {
	l = l[:cap(l)]
	for i := range l {
		l[i] = api.Row{Key: "over", Ver: v(99, i), Val: "written", Del: true}
	}
}

func overEntries(es []api.Entry) {
	es = es[:cap(es)]
	for i := range es {
		es[i] = api.Entry{Key: "over", Ver: v(99, i), Val: "written", Write: true, Del: true, Kind: 9, Res: "written"}
	}
}

// held is what was handed in, and what it was.
type held struct {
	rows, wasRows       []api.Row
	entries, wasEntries []api.Entry
}

func hold(l []api.Row, es []api.Entry) *held {
	h := &held{rows: roomy(l), entries: roomyEntries(es)}
	h.wasRows = slices.Clone(h.rows[:cap(h.rows)])
	h.wasEntries = slices.Clone(h.entries[:cap(h.entries)])
	return h
}

func (h *held) wantStays(t *testing.T, what string) {
	t.Helper()
	if !slices.Equal(h.rows[:cap(h.rows)], h.wasRows) {
		t.Fatalf("%s: the rows turned", what)
	}
	if !slices.Equal(h.entries[:cap(h.entries)], h.wasEntries) {
		t.Fatalf("%s: the entries turned", what)
	}
}

// kept are calls whose answers take all, some and nothing of what is handed in.
func kept() []*held {
	stood := []api.Row{has("b", 1, 5, "b"), gone("d", 1, 6), has("f", 1, 7, "f")}
	var l []*held
	for _, rows := range [][]api.Row{nil, stood[:1], stood[1:2], stood, {stood[0], stood[2]}} {
		for _, es := range [][]api.Entry{
			nil,
			{get("b", 9, 9)},
			{put("b", 1, 1, "early")},
			{put("b", 1, 5, "same")},
			{put("b", 2, 0, "late")},
			{del("b", 2, 0)},
			{put("a", 2, 0, "first")},
			{put("c", 2, 0, "amid")},
			{put("z", 2, 0, "last")},
			{put("z", 2, 0, "last"), put("a", 2, 1, "first"), del("d", 2, 2), put("a", 2, 3, "again"), get("a", 2, 4)},
			{put("b", 2, 2, "b"), put("d", 2, 1, "d"), put("f", 2, 0, "f")},
		} {
			l = append(l, hold(rows, es))
		}
	}
	return l
}

var floors = []api.Ver{0, v(1, 6), v(9, 9)}

func TestP9_3WhatIsHandedInStays(t *testing.T) {
	for i, h := range kept() {
		for _, floor := range floors {
			what := fmt.Sprint("the call ", i, ", the floor ", floor)
			table.Apply(h.rows, floor, h.entries)
			h.wantStays(t, "Apply, "+what)
			table.Collect(h.rows, floor)
			h.wantStays(t, "Collect, "+what)
			table.Right(h.rows)
			h.wantStays(t, "Right, "+what)
			for _, key := range keys {
				table.Find(h.rows, key)
			}
			h.wantStays(t, "Find, "+what)
		}
	}
}

// TestP9_3WhatIsAnsweredIsNew writes over what was answered, and over what there is room for behind it.
func TestP9_3WhatIsAnsweredIsNew(t *testing.T) {
	for i, h := range kept() {
		for _, floor := range floors {
			what := fmt.Sprint("the call ", i, ", the floor ", floor)
			a := table.Apply(h.rows, floor, h.entries)
			was := slices.Clone(a)
			b := table.Apply(h.rows, floor, h.entries)
			over(b)
			h.wantStays(t, "Apply, "+what)
			wantRows(t, "the Apply ahead, "+what, a, was)
			x := table.Collect(h.rows, floor)
			was = slices.Clone(x)
			y := table.Collect(h.rows, floor)
			over(y)
			h.wantStays(t, "Collect, "+what)
			wantRows(t, "the Collect ahead, "+what, x, was)
		}
	}
}

// TestP9_3NothingIsKept writes over what was handed in, and over what there is room for behind it.
func TestP9_3NothingIsKept(t *testing.T) {
	for i := range kept() {
		for _, floor := range floors {
			h := kept()[i]
			a, b := table.Apply(h.rows, floor, h.entries), table.Collect(h.rows, floor)
			r, ok := table.Find(h.rows, "b")
			wasA, wasB, was, wasOk := slices.Clone(a), slices.Clone(b), r, ok
			over(h.rows)
			overEntries(h.entries)
			wantRows(t, fmt.Sprint("Apply ", i), a, wasA)
			wantRows(t, fmt.Sprint("Collect ", i), b, wasB)
			if r != was || ok != wasOk {
				t.Fatalf("Find %d: turned to %s", i, one(r))
			}
		}
	}
}

// TestP9_3SameAtEachCall has it that nothing but the arguments matters: what is called between, and how much room there is behind a list.
func TestP9_3SameAtEachCall(t *testing.T) {
	c := chance(11)
	for i := range 2000 {
		l, floor, es := c.rows(4), c.ver(4), c.entries(c.below(8), 4)
		a, b := table.Apply(l, floor, es), table.Collect(l, floor)
		table.Apply(c.rows(4), c.ver(4), c.entries(c.below(8), 4))
		table.Collect(c.rows(4), c.ver(4))
		wantRows(t, fmt.Sprint("Apply ", i), table.Apply(roomy(l), floor, roomyEntries(es)), a)
		wantRows(t, fmt.Sprint("Collect ", i), table.Collect(roomy(l), floor), b)
	}
}

// TestP9_3RowsOfAnswersGoOn hands an answer with room behind it in again, twice: the one call's rows don't stand in the other's.
func TestP9_3RowsOfAnswersGoOn(t *testing.T) {
	l := table.Apply(nil, 0, []api.Entry{put("b", 1, 1, "b"), put("b", 1, 2, "bb"), get("c", 1, 3)})
	x := table.Apply(l, 0, []api.Entry{put("c", 1, 4, "x")})
	y := table.Apply(l, 0, []api.Entry{put("c", 1, 5, "y")})
	z := table.Collect(l, 0)
	wantRows(t, "the first", x, []api.Row{has("b", 1, 2, "bb"), has("c", 1, 4, "x")})
	wantRows(t, "the second", y, []api.Row{has("b", 1, 2, "bb"), has("c", 1, 5, "y")})
	wantRows(t, "collected", z, []api.Row{has("b", 1, 2, "bb")})
	over(z)
	wantRows(t, "the rows", l, []api.Row{has("b", 1, 2, "bb")})
}
