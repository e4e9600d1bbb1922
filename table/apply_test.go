package table_test

import (
	"fmt"
	"slices"
	"testing"

	"lockgate/api"
	"lockgate/table"
)

// P9.1: Apply.

// TestP9_1ApplyWrittenOut has each edge that the chapter names, with rows written by hand.
func TestP9_1ApplyWrittenOut(t *testing.T) {
	stood := []api.Row{has("b", 2, 5, "stood"), gone("d", 2, 6)}
	floor := v(2, 3)
	noWrite := put("b", 9, 9, "x")
	noWrite.Write = false
	noWriteNew := put("c", 9, 9, "x")
	noWriteNew.Write = false
	noWriteDel := del("b", 9, 9)
	noWriteDel.Write = false
	withVal := del("b", 2, 6)
	withVal.Val = "left"
	newWithVal := del("c", 2, 6)
	newWithVal.Val = "left"
	for _, x := range []struct {
		what string
		es   []api.Entry
		want []api.Row
	}{
		{"no entry", nil, stood},
		{"an empty list", []api.Entry{}, stood},
		{"no write, of a row", []api.Entry{noWrite}, stood},
		{"no write, of none", []api.Entry{noWriteNew}, stood},
		{"no write, a deletion", []api.Entry{noWriteDel}, stood},
		{"of the floor", []api.Entry{put("c", 2, 3, "x")}, stood},
		{"ahead of the floor", []api.Entry{put("c", 2, 2, "x")}, stood},
		{"ahead of the floor, of an epoch before", []api.Entry{put("c", 1, 9, "x")}, stood},
		{"behind the floor", []api.Entry{put("c", 2, 4, "x")}, []api.Row{stood[0], has("c", 2, 4, "x"), stood[1]}},
		{"behind the floor, of an epoch behind", []api.Entry{put("c", 3, 0, "x")}, []api.Row{stood[0], has("c", 3, 0, "x"), stood[1]}},
		{"a deletion of the floor", []api.Entry{del("c", 2, 3)}, stood},
		{"a deletion behind the floor", []api.Entry{del("c", 2, 4)}, []api.Row{stood[0], gone("c", 2, 4), stood[1]}},
		{"of the row's version", []api.Entry{put("b", 2, 5, "x")}, stood},
		{"ahead of the row's version", []api.Entry{put("b", 2, 4, "x")}, stood},
		{"ahead of the row's version, of an epoch before", []api.Entry{put("b", 1, 9, "x")}, stood},
		{"behind the row's version", []api.Entry{put("b", 2, 6, "x")}, []api.Row{has("b", 2, 6, "x"), stood[1]}},
		{"behind the row's version, of an epoch behind", []api.Entry{put("b", 3, 0, "x")}, []api.Row{has("b", 3, 0, "x"), stood[1]}},
		{"a deletion of the row's version", []api.Entry{del("b", 2, 5)}, stood},
		{"a deletion behind the row's version", []api.Entry{del("b", 2, 6)}, []api.Row{gone("b", 2, 6), stood[1]}},
		{"a deletion with a value, of a row", []api.Entry{withVal}, []api.Row{gone("b", 2, 6), stood[1]}},
		{"a deletion with a value, of none", []api.Entry{newWithVal}, []api.Row{stood[0], gone("c", 2, 6), stood[1]}},
		{"a value of a deletion's version", []api.Entry{put("d", 2, 6, "x")}, stood},
		{"a value behind a deletion", []api.Entry{put("d", 2, 7, "x")}, []api.Row{stood[0], has("d", 2, 7, "x")}},
		{"an empty value", []api.Entry{put("b", 2, 6, "")}, []api.Row{has("b", 2, 6, ""), stood[1]}},
		{"the empty key", []api.Entry{put("", 2, 6, "x")}, []api.Row{has("", 2, 6, "x"), stood[0], stood[1]}},
		{"a key behind all", []api.Entry{put("e", 2, 6, "x")}, []api.Row{stood[0], stood[1], has("e", 2, 6, "x")}},
		{"one key, rising", []api.Entry{put("c", 2, 4, "x"), del("c", 2, 5), put("c", 2, 6, "y")}, []api.Row{stood[0], has("c", 2, 6, "y"), stood[1]}},
		{"one key, falling", []api.Entry{put("c", 2, 6, "y"), del("c", 2, 5), put("c", 2, 4, "x")}, []api.Row{stood[0], has("c", 2, 6, "y"), stood[1]}},
		{"one key, the deletion last", []api.Entry{put("b", 2, 6, "y"), del("b", 2, 7)}, []api.Row{gone("b", 2, 7), stood[1]}},
		{"one key, the deletion last, told first", []api.Entry{del("b", 2, 7), put("b", 2, 6, "y")}, []api.Row{gone("b", 2, 7), stood[1]}},
		{"one key, of one version", []api.Entry{put("c", 2, 4, "x"), put("c", 2, 4, "y"), del("c", 2, 4)}, []api.Row{stood[0], has("c", 2, 4, "x"), stood[1]}},
		{"one key, some ahead of the row", []api.Entry{put("b", 2, 4, "x"), put("b", 2, 7, "y"), put("b", 2, 6, "z")}, []api.Row{has("b", 2, 7, "y"), stood[1]}},
		{"one key, some ahead of the floor", []api.Entry{put("c", 1, 7, "x"), put("c", 2, 3, "y"), put("c", 2, 4, "z")}, []api.Row{stood[0], has("c", 2, 4, "z"), stood[1]}},
		{"one key, some no writes", []api.Entry{get("c", 2, 9), put("c", 2, 4, "z"), get("c", 2, 8)}, []api.Row{stood[0], has("c", 2, 4, "z"), stood[1]}},
		{"several keys, falling", []api.Entry{put("e", 2, 4, "e"), put("c", 2, 5, "c"), put("a", 2, 6, "a")}, []api.Row{has("a", 2, 6, "a"), stood[0], has("c", 2, 5, "c"), stood[1], has("e", 2, 4, "e")}},
	} {
		wantRows(t, x.what, table.Apply(stood, floor, x.es), x.want)
	}
}

func TestP9_1ApplyToNoRows(t *testing.T) {
	for _, l := range [][]api.Row{nil, {}, []api.Row{has("a", 1, 1, "x")}[:0]} {
		wantRows(t, "no entry", table.Apply(l, 0, nil), nil)
		wantRows(t, "no write", table.Apply(l, 0, []api.Entry{get("a", 1, 1)}), nil)
		wantRows(t, "of nothing's version", table.Apply(l, 0, []api.Entry{put("a", 0, 0, "x")}), nil)
		wantRows(t, "one", table.Apply(l, 0, []api.Entry{put("a", 0, 1, "x")}), []api.Row{has("a", 0, 1, "x")})
		wantRows(t, "a deletion", table.Apply(l, 0, []api.Entry{del("a", 1, 0)}), []api.Row{gone("a", 1, 0)})
		wantRows(t, "two", table.Apply(l, 0, []api.Entry{put("b", 1, 1, "x"), put("a", 1, 2, "y")}), []api.Row{has("a", 1, 2, "y"), has("b", 1, 1, "x")})
	}
}

// TestP9_1ApplyLooksAtNothingElse has entries of each kind, and of each code, with all else set.
func TestP9_1ApplyLooksAtNothingElse(t *testing.T) {
	for _, kind := range []int{0, api.Get, api.Put, api.Delete, api.Swap, api.Barrier, -1, 99} {
		for _, code := range []int{api.Good, api.Absent, api.Other, api.Malformed, 99} {
			e := api.Entry{Ver: v(1, 2), Kind: kind, Key: "k", Val: "v", Write: true, Sess: 3, Num: 4, Code: code, Res: "res", HasRes: true}
			wantRows(t, "a write", table.Apply(nil, 0, []api.Entry{e}), []api.Row{has("k", 1, 2, "v")})
			e.Del = true
			wantRows(t, "a deletion", table.Apply(nil, 0, []api.Entry{e}), []api.Row{gone("k", 1, 2)})
			e.Write = false
			wantRows(t, "no write", table.Apply(nil, 0, []api.Entry{e}), nil)
		}
	}
}

// TestP9_1ApplyAllShortRows has each row of up to three entries, onto each of several rows, with each of several floors.
func TestP9_1ApplyAllShortRows(t *testing.T) {
	var es []api.Entry
	for _, key := range []string{"a", "b"} {
		for _, x := range []api.Ver{v(1, 1), v(1, 2), v(2, 1)} {
			e := api.Entry{Ver: x, Key: key, Write: true}
			e.Val = fmt.Sprint("put", x)
			es = append(es, e)
			e.Del, e.Val = true, "left"
			es = append(es, e)
		}
		es = append(es, get(key, 1, 3))
	}
	bases := [][]api.Row{
		nil,
		{has("a", 1, 2, "stood")},
		{gone("b", 1, 1)},
		{has("a", 2, 1, "stood"), has("b", 1, 1, "stood too")},
		{has("", 1, 1, "first"), gone("a", 1, 2), has("aa", 1, 1, "amid"), has("c", 1, 1, "last")},
	}
	rowsOf(es, 3, func(row []api.Entry) {
		for _, base := range bases {
			for _, floor := range []api.Ver{0, v(1, 1), v(1, 9), v(2, 1)} {
				what := fmt.Sprint(toldEntries(row), " onto ", told(base), " with the floor ", floor)
				wantRows(t, what, table.Apply(base, floor, row), of(base).applyAll(floor, row).list())
			}
		}
	})
}

// TestP9_1ApplyEachFloor has an entry of each version with a floor of each, onto a row of each, and onto none.
func TestP9_1ApplyEachFloor(t *testing.T) {
	var vs []api.Ver
	for _, epoch := range []int{0, 1, 2, 1 << 31, api.MaxCount - 1, api.MaxCount} {
		for _, num := range []int{0, 1, 2, 1 << 31, api.MaxCount - 1, api.MaxCount} {
			vs = append(vs, v(epoch, num))
		}
	}
	for _, floor := range vs {
		for _, x := range vs {
			es := []api.Entry{{Key: "b", Ver: x, Val: "new", Write: true}}
			base := []api.Row{has("a", 1, 1, "a"), has("c", 1, 1, "c")}
			wantRows(t, fmt.Sprint("a new row of ", x, ", the floor ", floor), table.Apply(base, floor, es), of(base).applyAll(floor, es).list())
			for _, stood := range vs {
				base := []api.Row{has("a", 1, 1, "a"), {Key: "b", Ver: stood, Val: "stood"}, has("c", 1, 1, "c")}
				wantRows(t, fmt.Sprint("an entry of ", x, " onto a row of ", stood, ", the floor ", floor), table.Apply(base, floor, es), of(base).applyAll(floor, es).list())
			}
		}
	}
}

// TestP9_1ApplyAtEachPlace sets one key in ahead of, amid and behind rows of each small count, and turns each of them.
func TestP9_1ApplyAtEachPlace(t *testing.T) {
	for n := range 20 {
		var l []api.Row
		for i := range n {
			l = append(l, has(fmt.Sprintf("%02d", 2*i+1), 1, 1, fmt.Sprint("val", i)))
		}
		for i := range 2*n + 1 {
			es := []api.Entry{put(fmt.Sprintf("%02d", i), 1, 2, "new")}
			wantRows(t, fmt.Sprint("the key ", i, " of ", n), table.Apply(l, 0, es), of(l).applyAll(0, es).list())
			for j := range 2*n + 1 {
				es := []api.Entry{es[0], del(fmt.Sprintf("%02d", j), 1, 3)}
				wantRows(t, fmt.Sprint("the keys ", i, ", ", j, " of ", n), table.Apply(l, 0, es), of(l).applyAll(0, es).list())
			}
		}
	}
}

func TestP9_1ApplyByChance(t *testing.T) {
	c := chance(1)
	for i := range 20000 {
		l, floor, es := c.rows(4), c.ver(3), c.entries(c.below(12), 4)
		wantRows(t, fmt.Sprint("walk ", i), table.Apply(l, floor, es), of(l).applyAll(floor, es).list())
	}
}

// TestP9_1ApplyManyOfOneVersion has more entries than a sort leaves in their order by itself: of one version the first one holds.
func TestP9_1ApplyManyOfOneVersion(t *testing.T) {
	for _, n := range []int{2, 10, 13, 50, 1000} {
		var es []api.Entry
		for i := range n {
			es = append(es, put(fmt.Sprintf("%03d", i%7), 1, 1, fmt.Sprint("val", i)))
		}
		wantRows(t, fmt.Sprint(n, " entries"), table.Apply(nil, 0, es), of(nil).applyAll(0, es).list())
	}
}

// TestP1TableOfMany has lists as long as lists may be, and longer ones, whose keys fall: it ends soon.
func TestP1TableOfMany(t *testing.T) {
	for _, n := range []int{api.MaxList, 1 << 16} {
		var es []api.Entry
		var want []api.Row
		for i := range n {
			key := fmt.Sprintf("%06d", n-i)
			es = append(es, put(key, 1, i, key))
			want = append(want, has(key, 1, i, key))
		}
		slices.Reverse(want)
		l := table.Apply(nil, v(0, 9), es)
		wantRows(t, "falling keys", l, want)
		wantRows(t, "again", table.Apply(l, v(0, 9), es), want)
		for i := range es {
			es[i].Ver, es[i].Del = v(2, i), i%2 == 0
		}
		l = table.Apply(l, v(0, 9), es)
		if len(l) != n {
			t.Fatalf("%d rows of %d", len(l), n)
		}
		m := table.Collect(l, v(3, 0))
		if len(m) != n/2 {
			t.Fatalf("%d rows of %d are left", len(m), n)
		}
		for i := range es {
			_, ok := table.Find(m, es[i].Key)
			if ok == es[i].Del {
				t.Fatalf("the key %s is found: %v", es[i].Key, ok)
			}
		}
	}
}
