package table_test

import (
	"fmt"
	"testing"

	"lockgate/api"
	"lockgate/table"
)

// P9.1: Collect.

func TestP9_1CollectWrittenOut(t *testing.T) {
	l := []api.Row{gone("a", 1, 4), has("b", 1, 4, "b"), gone("c", 1, 5), has("d", 1, 5, "d"), gone("e", 1, 6), has("f", 1, 6, ""), gone("g", 2, 0), has("h", 2, 0, "h")}
	for _, x := range []struct {
		what  string
		floor api.Ver
		want  []api.Row
	}{
		{"ahead of all", 0, l},
		{"just ahead of all", v(1, 3), l},
		{"ahead of all, of an epoch before", v(0, 9), l},
		{"at the first", v(1, 4), l[1:]},
		{"at the second", v(1, 5), []api.Row{l[1], l[3], l[4], l[5], l[6], l[7]}},
		{"at the third", v(1, 6), []api.Row{l[1], l[3], l[5], l[6], l[7]}},
		{"between two epochs", v(1, 9), []api.Row{l[1], l[3], l[5], l[6], l[7]}},
		{"at the last", v(2, 0), []api.Row{l[1], l[3], l[5], l[7]}},
		{"behind all", v(2, 1), []api.Row{l[1], l[3], l[5], l[7]}},
		{"behind all, of an epoch behind", v(3, 0), []api.Row{l[1], l[3], l[5], l[7]}},
		{"the last version of all", v(api.MaxCount, api.MaxCount), []api.Row{l[1], l[3], l[5], l[7]}},
	} {
		wantRows(t, x.what, table.Collect(l, x.floor), x.want)
	}
}

func TestP9_1CollectOfNoRows(t *testing.T) {
	for _, l := range [][]api.Row{nil, {}, []api.Row{gone("a", 1, 1)}[:0]} {
		for _, floor := range []api.Ver{0, v(1, 1), v(api.MaxCount, api.MaxCount)} {
			wantRows(t, "no rows", table.Collect(l, floor), nil)
		}
	}
}

// TestP9_1CollectEachFloor has a row of each version, deleted and not, with a floor of each, alone and amid others.
func TestP9_1CollectEachFloor(t *testing.T) {
	var vs []api.Ver
	for _, epoch := range []int{0, 1, 2, 1 << 31, api.MaxCount} {
		for _, num := range []int{0, 1, 2, 1 << 31, api.MaxCount} {
			vs = append(vs, v(epoch, num))
		}
	}
	for _, floor := range vs {
		for _, x := range vs {
			for _, r := range []api.Row{{Key: "b", Ver: x, Del: true}, {Key: "b", Ver: x, Val: "val"}, {Key: "b", Ver: x}} {
				for _, l := range [][]api.Row{{r}, {has("a", 0, 0, "a"), r}, {r, gone("c", 1, 1)}, {gone("a", 1, 1), r, has("c", 0, 0, "")}} {
					what := fmt.Sprint("the floor ", floor, " of ", told(l))
					wantRows(t, what, table.Collect(l, floor), of(l).collect(floor).list())
				}
			}
		}
	}
}

func TestP9_1CollectByChance(t *testing.T) {
	c := chance(2)
	for i := range 20000 {
		l, floor := c.rows(4), c.ver(5)
		wantRows(t, fmt.Sprint("walk ", i), table.Collect(l, floor), of(l).collect(floor).list())
	}
}
