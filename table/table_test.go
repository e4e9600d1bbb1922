package table_test

import (
	"fmt"
	"math"
	"strings"
	"testing"

	"lockgate/api"
	"lockgate/table"
)

// P9.1: the chapter's examples.

func TestP9_1Examples(t *testing.T) {
	l := []api.Row{has("a", 1, 5, "five")}
	wantRows(t, "an entry of 1 4", table.Apply(l, 0, []api.Entry{put("a", 1, 4, "four")}), l)
	l = table.Apply(l, 0, []api.Entry{del("a", 2, 1)})
	wantRows(t, "an entry of 2 1", l, []api.Row{gone("a", 2, 1)})
	wantRows(t, "collected", table.Collect(l, v(2, 1)), nil)
}

// P9.1: Find.

func TestP9_1FindOfNoRows(t *testing.T) {
	for _, l := range [][]api.Row{nil, {}, []api.Row{has("a", 1, 1, "x")}[:0]} {
		for _, key := range keys {
			wantFound(t, l, key, api.Row{}, false)
		}
	}
}

func TestP9_1FindOfOneRow(t *testing.T) {
	for _, r := range []api.Row{has("b", 1, 2, "two"), has("b", 0, 0, ""), gone("b", 3, 0), has("", 1, 1, "of no key")} {
		l := []api.Row{r}
		wantFound(t, l, r.Key, r, true)
		for _, key := range []string{"a", "c", "a\xff", "b\x00", "bb", "B", "\xff"} {
			wantFound(t, l, key, api.Row{}, false)
		}
	}
	wantFound(t, []api.Row{has("b", 1, 2, "two")}, "", api.Row{}, false)
	wantFound(t, []api.Row{has("", 1, 2, "two")}, "b", api.Row{}, false)
}

// TestP9_1FindOfEachCount has rows of each small count, and asks for each key, and for those between.
func TestP9_1FindOfEachCount(t *testing.T) {
	for n := range 40 {
		var l []api.Row
		for i := range n {
			l = append(l, has(fmt.Sprintf("%03d", 2*i+1), 1, i, fmt.Sprint("val", i)))
		}
		for i := range n {
			wantFound(t, l, fmt.Sprintf("%03d", 2*i+1), l[i], true)
		}
		for i := range n + 1 {
			wantFound(t, l, fmt.Sprintf("%03d", 2*i), api.Row{}, false)
		}
		wantFound(t, l, "", api.Row{}, false)
		wantFound(t, l, "\xff", api.Row{}, false)
	}
}

// TestP9_1FindBytes has keys that are a beginning of others, and bytes that are no UTF-8, which rise as bytes do.
func TestP9_1FindBytes(t *testing.T) {
	rise := []string{"", "\x00", "\x00\x00", "A", "a", "a\x00", "aa", "aaa", "ab", "b", "b\x7f", "b\x80", "b\xc3", "b\xc3\xa4", "b\xff", "\xc3", "\xc3\x28", "\xc3\xa4", "\xed\xa0\x80", "\xef\xbf\xbd", "\xfe", "\xff", "\xff\xff"}
	for out := -1; out < len(rise); out++ {
		var l []api.Row
		for i, key := range rise {
			if i != out {
				l = append(l, has(key, i, 1, "of "+key))
			}
		}
		if !table.Right(l) {
			t.Fatalf("%s aren't right", told(l))
		}
		for i, key := range rise {
			if i == out {
				wantFound(t, l, key, api.Row{}, false)
				continue
			}
			wantFound(t, l, key, has(key, i, 1, "of "+key), true)
		}
	}
}

func TestP9_1FindLongKeys(t *testing.T) {
	long := strings.Repeat("k", api.MaxText-1)
	l := []api.Row{has(long, 1, 1, "short"), has(long+"a", 1, 2, "a"), has(long+"c", 1, 3, "c")}
	for _, r := range l {
		wantFound(t, l, r.Key, r, true)
	}
	for _, key := range []string{long[1:], long + "b", long + "d", long + "aa", ""} {
		wantFound(t, l, key, api.Row{}, false)
	}
}

func TestP9_1FindOfManyRows(t *testing.T) {
	var l []api.Row
	for i := range api.MaxList {
		l = append(l, has(fmt.Sprintf("%05d", 2*i+1), 1, i, fmt.Sprint("val", i)))
	}
	for i := range api.MaxList {
		wantFound(t, l, fmt.Sprintf("%05d", 2*i+1), l[i], true)
		wantFound(t, l, fmt.Sprintf("%05d", 2*i), api.Row{}, false)
	}
	wantFound(t, l, fmt.Sprintf("%05d", 2*api.MaxList), api.Row{}, false)
}

// P9.1: Right.

func TestP9_1RightKeys(t *testing.T) {
	for _, x := range []struct {
		keys []string
		want bool
	}{
		{nil, true},
		{[]string{""}, true},
		{[]string{"a"}, true},
		{[]string{"\xff"}, true},
		{[]string{"", "a"}, true},
		{[]string{"a", "b", "c"}, true},
		{[]string{"a", "aa", "ab", "b"}, true},
		{[]string{"a", "a\x00"}, true},
		{[]string{"B", "a"}, true},
		{[]string{"b\x7f", "b\x80", "\xc3\xa4", "\xff"}, true},
		{[]string{"z", "\x80"}, true},
		{[]string{"\xee\x80\x80", "\xf0\x90\x80\x80"}, true},
		{[]string{"", ""}, false},
		{[]string{"a", ""}, false},
		{[]string{"a", "a"}, false},
		{[]string{"b", "a"}, false},
		{[]string{"aa", "a"}, false},
		{[]string{"a\x00", "a"}, false},
		{[]string{"a", "B"}, false},
		{[]string{"\x80", "z"}, false},
		{[]string{"\xff", "\xfe"}, false},
		{[]string{"10", "9", "8"}, false},
		{[]string{"a", "b", "b"}, false},
		{[]string{"a", "a", "b"}, false},
		{[]string{"a", "c", "b"}, false},
		{[]string{"b", "a", "c"}, false},
		{[]string{"a", "b", "a"}, false},
		{[]string{"a", "b", "c", "c", "d"}, false},
		{[]string{"a", "b", "d", "c", "e"}, false},
	} {
		var l []api.Row
		for i, key := range x.keys {
			l = append(l, has(key, 1, i, "v"))
		}
		if table.Right(l) != x.want {
			t.Errorf("Right of the keys %q: %v", x.keys, !x.want)
		}
	}
	if !table.Right([]api.Row{}) {
		t.Error("an empty list isn't right")
	}
}

func TestP9_1RightVersions(t *testing.T) {
	nan, inf, minus := math.NaN(), math.Inf(1), math.Copysign(0, -1)
	good := []float64{0, 1, 2, 1 << 31, api.MaxCount - 1, api.MaxCount, minus}
	bad := []float64{-1, -api.MaxCount, -0.5, 0.5, 1.5, api.MaxCount - 0.5, api.MaxCount + 0.5, api.MaxCount + 1, 2 * api.MaxCount, 1e300, math.SmallestNonzeroFloat64, nan, inf, -inf}
	for _, a := range good {
		for _, b := range good {
			wantRightVer(t, api.Ver(complex(a, b)), true)
		}
		for _, b := range bad {
			wantRightVer(t, api.Ver(complex(a, b)), false)
			wantRightVer(t, api.Ver(complex(b, a)), false)
		}
	}
	for _, b := range bad {
		wantRightVer(t, api.Ver(complex(b, b)), false)
	}
}

// wantRightVer has the version in each of several rows, in some and in others a deletion's.
func wantRightVer(t *testing.T, x api.Ver, want bool) {
	t.Helper()
	for n := 1; n <= 4; n++ {
		for at := range n {
			for _, deleted := range []bool{false, true} {
				var l []api.Row
				for i := range n {
					l = append(l, has(string(rune('a'+i)), 1, 1, ""))
				}
				l[at].Ver, l[at].Del = x, deleted
				if table.Right(l) != want {
					t.Fatalf("Right with the version %v in the row %d of %d: %v", x, at, n, !want)
				}
			}
		}
	}
}

// TestP9_1RightLooksAtNothingElse has versions in no order, and deletions that have a value.
func TestP9_1RightLooksAtNothingElse(t *testing.T) {
	l := []api.Row{has("a", 9, 9, ""), has("b", 1, 1, "x"), gone("c", 9, 9), {Key: "d", Del: true, Val: "left"}, has("e", 0, 0, "")}
	if !table.Right(l) {
		t.Error("not right")
	}
}

func TestP9_1RightOfManyRows(t *testing.T) {
	var l []api.Row
	for i := range api.MaxList {
		l = append(l, has(fmt.Sprintf("%05d", i), 1, i, ""))
	}
	if !table.Right(l) {
		t.Fatal("not right")
	}
	for _, at := range []int{0, 1, 2000, len(l) - 2, len(l) - 1} {
		was := l[at]
		l[at].Ver = -1
		if table.Right(l) {
			t.Errorf("right with the version -1 in the row %d", at)
		}
		l[at] = was
		if at > 0 {
			l[at].Key = l[at-1].Key
			if table.Right(l) {
				t.Errorf("right with the key of the row %d twice", at-1)
			}
			l[at] = was
		}
	}
}
