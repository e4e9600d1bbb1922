package lru_test

import (
	"fmt"
	"math"
	"strings"
	"testing"

	"lockgate/api"
	"lockgate/lru"
)

// TestP12_1Example is the chapter's.
func TestP12_1Example(t *testing.T) {
	a, b, c := parse("a:x@1"), parse("b:y@2"), parse("c:z@3")
	l := lru.Put(nil, a, 6)
	l = lru.Put(l, b, 6)
	wantList(t, "a and b", l, model{a, b})
	if n := lru.Size(l); n != 6 {
		t.Fatalf("Size of a and b is %d", n)
	}
	x, l, ok := lru.Get(l, "a")
	if x != a || !ok {
		t.Fatalf("Get a answers %s, %v", one(x), ok)
	}
	wantList(t, "Get a", l, model{b, a})
	wantList(t, "c", lru.Put(l, c, 6), model{a, c})
}

func TestP12_1Size(t *testing.T) {
	long := strings.Repeat("k", api.MaxText)
	for _, x := range []struct {
		l    []api.Item
		want int
	}{
		{nil, 0},
		{[]api.Item{}, 0},
		{list("a:x b:y")[:0], 0},
		{[]api.Item{{}}, 1},
		{list(":"), 1},
		{list("a:"), 2},
		{list(":x"), 2},
		{list("a:x"), 3},
		{list("abc:"), 4},
		{list(":xyz"), 4},
		{list("abc:xyzw"), 8},
		{list("a:x b:y"), 6},
		{list("a:xx b:y :"), 8},
		{list(": a: :x"), 5},
		{list("a:x@2 b:y@4"), 6},
		{[]api.Item{{Key: "\x00", Val: "\xff\xfe"}, {Key: "é", Val: "日本"}}, 13},
		{[]api.Item{{Key: "a", Val: "x", Has: true, Ver: api.Ver(complex(api.MaxCount, api.MaxCount))}}, 3},
		{[]api.Item{{Key: "a", Ver: 7}, {Key: "b", Val: "x"}}, 5},
		{[]api.Item{{Key: long, Val: long}}, 1<<17 + 1},
		{[]api.Item{{Key: long}, {Key: "a", Val: long}, {Val: long}}, 3<<16 + 4},
	} {
		if n := lru.Size(x.l); n != x.want {
			t.Errorf("Size of %s is %d, not %d", told(x.l), n, x.want)
		}
	}
}

// TestP12_1SizeOfMany adds up more items than any desk has.
func TestP12_1SizeOfMany(t *testing.T) {
	var l []api.Item
	for i := range 100000 {
		l = append(l, item(fmt.Sprintf("%07d", i), "val", i))
	}
	if n := lru.Size(l); n != 1100000 {
		t.Fatalf("Size is %d", n)
	}
}

func TestP12_1Put(t *testing.T) {
	for _, x := range []struct {
		l    string
		x    string
		room int
		want string
	}{
		{"", "a:x", 3, "a:x"},
		{"", "a:x", 2, ""},
		{"a:x b:y", "c:z@2", 9, "a:x b:y c:z@2"},
		{"a:x b:y", "c:z@2", 8, "b:y c:z@2"},
		{"a:x b:y", "c:z@2", 6, "b:y c:z@2"},
		{"a:x b:y", "c:z@2", 5, "c:z@2"},
		{"a:x b:y", "c:z@2", 3, "c:z@2"},
		{"a:x b:y", "c:z@2", 2, ""},
		{"a:x b:y", "a:x@2", 6, "b:y a:x@2"},
		{"a:x b:y", "b:y@2", 6, "a:x b:y@2"},
		{"a:x b:y", "a:x@2", 5, "a:x@2"},
		{"a:x b:y", "b:y@2", 5, "b:y@2"},
		{"a:x b:y", "b:@2", 5, "a:x b:@2"},
		{"a:x b:y", "b:@2", 4, "b:@2"},
		{"a:x b:y", "a:@2", 5, "b:y a:@2"},
		{"a:x b:y", "a:longer@2", 11, "b:y a:longer@2"},
		{"a:x b:y", "a:longer@2", 10, "a:longer@2"},
		{"a:x b:y", "a:longer@2", 8, "a:longer@2"},
		{"a:x b:y", "a:longer@2", 7, ""},
		{"a:x bb:yy c:z", "d:w@2", 11, "bb:yy c:z d:w@2"},
		{"a:x bb:yy c:z", "d:w@2", 10, "c:z d:w@2"},
		{"a:xxxxxxxxx b:y c:z", "d:w@2", 20, "a:xxxxxxxxx b:y c:z d:w@2"},
		{"a:xxxxxxxxx b:y c:z", "d:w@2", 19, "b:y c:z d:w@2"},
		{"a:x b:yyyyyyyyy c:z", "d:w@2", 16, "c:z d:w@2"},
		{"a:x b:y", ":@2", 7, "a:x b:y :@2"},
		{"a:x b:y", ":@2", 6, "b:y :@2"},
		{"a:x b:y", ":@2", 1, ":@2"},
		{"a:x b:y", ":@2", 0, ""},
		{": a:x", ":@2", 4, "a:x :@2"},
		{": a:x", ":y@2", 4, ":y@2"},
		{": a:x", "b:@2", 5, "a:x b:@2"},
		{"a:x ab:y abc:z", "ab:y@2", 12, "a:x abc:z ab:y@2"},
		{"abc:z ab:y a:x", "a:y@2", 12, "abc:z ab:y a:y@2"},
	} {
		what := fmt.Sprintf("%s of %q", put(x.x, x.room), x.l)
		got := lru.Put(list(x.l), parse(x.x), x.room)
		wantList(t, what, got, list(x.want))
		if n := lru.Size(got); n != model(list(x.want)).size() {
			t.Fatalf("%s: Size is %d", what, n)
		}
	}
}

// stands are the keys that stand at the front, in the middle, at the end, and nowhere, of a list of five.
var stands = []string{"k0", "k1", "k2", "k3", "k4", "k", "k00", ""}

func five() model { return list("k0:xxx@10 k1:xxx@11 k2:xxx@12 k3:xxx@13 k4:xxx@14") }

// rooms are those about the whole size of what is laid, and of each part of it that may stay, and the ends.
func rooms(m model, x api.Item) []int {
	all := m.clone()
	all.put(x, math.MaxInt)
	l := []int{math.MinInt, math.MinInt + 1, -1 << 32, -1, 0, 1, 2, 1 << 32, math.MaxInt - 1, math.MaxInt}
	for i := range all {
		n := all[i:].size()
		l = append(l, n-1, n, n+1)
	}
	return l
}

// TestP12_1PutWhereItStands lays a longer value, a shorter one and the same, with each room that matters.
func TestP12_1PutWhereItStands(t *testing.T) {
	for _, key := range stands {
		for _, val := range []string{"", "xx", "xxx", "xxxx", "yyy", strings.Repeat("x", 16), strings.Repeat("x", 100)} {
			x := item(key, val, 20)
			for _, room := range rooms(five(), x) {
				m := five()
				wantDone(t, "five", act{puts, room, x}, five(), &m)
			}
		}
	}
}

// TestP12_1PutOfTheVerySameItem lays what stands there already, whatever else it has.
func TestP12_1PutOfTheVerySameItem(t *testing.T) {
	for at, x := range five() {
		for _, room := range rooms(five(), x) {
			m := five()
			wantDone(t, fmt.Sprint("the place ", at), act{puts, room, x}, five(), &m)
		}
	}
}

// TestP12_1ItemAsGreatAsRoom: of just as many bytes it stays alone, of one more it goes, with all others.
func TestP12_1ItemAsGreatAsRoom(t *testing.T) {
	for _, room := range []int{1, 2, 3, 10, 21, 100, 1000, 1 << 16} {
		for _, l := range []model{nil, five(), list("a:y@2"), list(":@2"), list("long:" + strings.Repeat("x", 2000))} {
			key := "a"[:min(1, room-1)]
			x := item(key, strings.Repeat("x", room-1-len(key)), 7)
			got := lru.Put(l.clone(), x, room)
			wantList(t, fmt.Sprint("room ", room, " just so"), got, model{x})
			if n := lru.Size(got); n != room {
				t.Fatalf("room %d: Size is %d", room, n)
			}
			for _, more := range []string{"x", "xx", strings.Repeat("x", 70000)} {
				x.Val += more
				wantList(t, fmt.Sprint("room ", room, " and ", len(more)), lru.Put(l.clone(), x, room), nil)
			}
		}
	}
}

// TestP12_1NoRoom: where not even an item of no bytes stays, none does.
func TestP12_1NoRoom(t *testing.T) {
	for _, room := range []int{0, -1, -2, -1000, -1 << 31, -1 << 32, math.MinInt + 1, math.MinInt} {
		for _, l := range []model{nil, five(), list(":@2"), list("a:x b:y"), {item("a", strings.Repeat("x", 1<<20), 3)}} {
			for _, x := range []api.Item{{}, parse(":"), parse("a:"), parse(":x"), parse("k2:xx"), parse("new:value")} {
				got := lru.Put(l.clone(), x, room)
				if len(got) != 0 || lru.Size(got) != 0 {
					t.Fatalf("room %d: Put(%s) of %s leaves %s", room, one(x), told(l), told(got))
				}
			}
		}
	}
}

// TestP12_1GreatestRoom: nothing goes but what stood there of the same key.
func TestP12_1GreatestRoom(t *testing.T) {
	for _, room := range []int{math.MaxInt, math.MaxInt - 1, 1 << 62, 1 << 33, 1<<31 - 1} {
		for _, key := range stands {
			x := item(key, "yy", 33)
			got := lru.Put(five(), x, room)
			var want model
			for _, y := range five() {
				if y.Key != key {
					want = append(want, y)
				}
			}
			wantList(t, fmt.Sprint("room ", room), got, append(want, x))
		}
	}
}

// TestP12_1GreaterThanRoomBefore has lists that are greater than room before anything is laid.
func TestP12_1GreaterThanRoomBefore(t *testing.T) {
	l := "a:xxxxxxxx b:xx c:xxxx d:x"
	for _, x := range []struct {
		x    string
		room int
		want string
	}{
		{"e:@2", 15, "b:xx c:xxxx d:x e:@2"},
		{"e:@2", 14, "c:xxxx d:x e:@2"},
		{"e:@2", 11, "c:xxxx d:x e:@2"},
		{"e:@2", 10, "d:x e:@2"},
		{"e:@2", 2, "e:@2"},
		{"e:@2", 1, ""},
		{"a:@2", 15, "b:xx c:xxxx d:x a:@2"},
		{"a:@2", 14, "c:xxxx d:x a:@2"},
		{"c:@2", 10, "b:xx d:x c:@2"},
		{"c:@2", 9, "b:xx d:x c:@2"},
		{"c:@2", 8, "d:x c:@2"},
		{"d:@2", 12, "b:xx c:xxxx d:@2"},
		{"d:@2", 11, "c:xxxx d:@2"},
	} {
		wantList(t, put(x.x, x.room), lru.Put(list(l), parse(x.x), x.room), list(x.want))
	}
}

func TestP12_1Get(t *testing.T) {
	for _, x := range []struct{ l, key, want, left string }{
		{"a:x@7", "a", "a:x@7", "a:x@7"},
		{"a:x@7 b:y@8 c:z@9", "a", "a:x@7", "b:y@8 c:z@9 a:x@7"},
		{"a:x@7 b:y@8 c:z@9", "b", "b:y@8", "a:x@7 c:z@9 b:y@8"},
		{"a:x@7 b:y@8 c:z@9", "c", "c:z@9", "a:x@7 b:y@8 c:z@9"},
		{":x@7 b:y@8", "", ":x@7", "b:y@8 :x@7"},
		{"a:x :@8", "", ":@8", "a:x :@8"},
		{"abc:1 ab:2@4 a:3", "ab", "ab:2@4", "abc:1 a:3 ab:2@4"},
		{"abc:1 ab:2@4 a:3@6", "a", "a:3@6", "abc:1 ab:2@4 a:3@6"},
		{"a:1@3 ab:2@4 abc:3@6", "abc", "abc:3@6", "a:1@3 ab:2@4 abc:3@6"},
		{"a:b@3 b:a@4", "a", "a:b@3", "b:a@4 a:b@3"},
	} {
		got, left, ok := lru.Get(list(x.l), x.key)
		if got != parse(x.want) || !ok {
			t.Fatalf("Get(%q) of %q answers %s, %v", x.key, x.l, one(got), ok)
		}
		wantList(t, fmt.Sprintf("Get(%q) of %q", x.key, x.l), left, list(x.left))
	}
}

func TestP12_1Out(t *testing.T) {
	for _, x := range []struct{ l, key, left string }{
		{"a:x@7", "a", ""},
		{"a:x@7 b:y@8 c:z@9", "a", "b:y@8 c:z@9"},
		{"a:x@7 b:y@8 c:z@9", "b", "a:x@7 c:z@9"},
		{"a:x@7 b:y@8 c:z@9", "c", "a:x@7 b:y@8"},
		{":x@7 b:y@8", "", "b:y@8"},
		{"abc:1 ab:2@4 a:3", "ab", "abc:1 a:3"},
		{"abc:1 ab:2@4 a:3@6", "a", "abc:1 ab:2@4"},
		{"a:b@3 b:a@4", "b", "a:b@3"},
	} {
		wantList(t, fmt.Sprintf("Out(%q) of %q", x.key, x.l), lru.Out(list(x.l), x.key), list(x.left))
	}
}

// nothings are the lists of no item: none, an empty one, and one with items in the room behind it.
func nothings() [][]api.Item {
	return [][]api.Item{nil, {}, list("a:x b:y :")[:0]}
}

func TestP12_1ListOfNoItem(t *testing.T) {
	for k, l := range nothings() {
		for _, key := range []string{"a", "b", "", "long key that there isn't"} {
			for _, a := range []act{get(key), out(key), {puts, 40, item(key, "val", 3)}, {puts, 4, item(key, "val", 3)}, {puts, 3, item(key, "val", 3)}} {
				var m model
				wantDone(t, fmt.Sprint("no item ", k), a, l, &m)
			}
		}
	}
}

// TestP12_1KeyThatThereIsnt: the zero item, the list as it was, and false.
func TestP12_1KeyThatThereIsnt(t *testing.T) {
	for _, l := range []string{"a:x@7", "a:x b:y@2 c:z", "abc:x ab:y", "aa:x b:a", "A:x", "b:"} {
		for _, key := range []string{"", "z", "x", "y", "bb", "abcd", "a ", " a", "a\x00", "ab\x00", "a:x", "aaa"} {
			x, left, ok := lru.Get(list(l), key)
			if x != (api.Item{}) || ok {
				t.Fatalf("Get(%q) of %q answers %s, %v", key, l, one(x), ok)
			}
			wantList(t, get(key), left, list(l))
			wantList(t, out(key), lru.Out(list(l), key), list(l))
		}
	}
}

// texts are keys and values of all lengths and kinds; none is another one's like.
func texts() []string {
	every := make([]byte, 256)
	for i := range every {
		every[i] = byte(i)
	}
	l := []string{"", "a", "A", "ab", "abc", "b", "\x00", "\x00\x00", "a\x00", "\xff", "\xfe", "\xc3", "\u00e9", "e\u0301", "\u65e5", " ", "\n", string(every)}
	return append(l, strings.Repeat("long", 1<<12), strings.Repeat("long", 1<<12)+"er", string(every[:100])+strings.Repeat("z", 1<<16))
}

func TestP12_1Texts(t *testing.T) {
	keys := texts()
	var m model
	l := m.clone()
	for i, key := range keys {
		l = wantDone(t, "texts", act{puts, math.MaxInt, item(key, keys[len(keys)-1-i], i)}, l, &m)
	}
	if len(l) != len(keys) {
		t.Fatalf("of %d keys there are %d items", len(keys), len(l))
	}
	for i, key := range keys {
		for _, a := range []act{get(key), out(key), {puts, m.size(), item(key, "new", 100+i)}, {puts, m.size() / 2, item(key, keys[i], i)}} {
			left := m.clone()
			wantDone(t, "texts", a, l, &left)
		}
	}
	for _, key := range keys {
		l = wantDone(t, "texts", get(key), l, &m)
	}
}

// versions are the zero one, small ones, and the greatest.
func versions() []api.Ver {
	top := float64(api.MaxCount)
	return []api.Ver{0, 1, api.Ver(complex(0, 1)), api.Ver(complex(1, 1)), api.Ver(complex(top, 0)), api.Ver(complex(0, top)), api.Ver(complex(top, top))}
}

// TestP12_1WhatElseItHas: a version, and whether there is one of the key, come out as they went in, and weigh nothing.
func TestP12_1WhatElseItHas(t *testing.T) {
	for _, v := range versions() {
		for _, w := range versions() {
			for bits := range 4 {
				a := api.Item{Key: "a", Val: "x", Has: bits&1 != 0, Ver: v}
				b := api.Item{Key: "a", Val: "x", Has: bits&2 != 0, Ver: w}
				other := api.Item{Key: "o", Has: bits&1 != 0, Ver: w}
				wantList(t, "laid", lru.Put(nil, a, 3), model{a})
				wantList(t, "laid over", lru.Put([]api.Item{a, other}, b, 5), model{other, b})
				wantList(t, "laid over, no room for both", lru.Put([]api.Item{a, other}, b, 4), model{b})
				x, l, ok := lru.Get([]api.Item{a, other}, "a")
				if x != a || !ok {
					t.Fatalf("Get of %s answers %s, %v", one(a), one(x), ok)
				}
				wantList(t, "got", l, model{other, a})
				wantList(t, "out", lru.Out([]api.Item{other, a}, "o"), model{a})
			}
		}
	}
}

// many is a list of so many items, each of 9 bytes.
func many(n int) model {
	var m model
	for i := range n {
		m = append(m, item(fmt.Sprintf("%06d", i), "xx", i))
	}
	return m
}

// TestP12_1ManyItems has lists of which all go, none and one.
func TestP12_1ManyItems(t *testing.T) {
	const n = 20000
	l := many(n)
	x := item("new key", "x", 7)
	for _, y := range []struct {
		room int
		want model
	}{
		{9*n + 9, append(l.clone(), x)},
		{9*n + 8, append(l[1:].clone(), x)},
		{9 * n, append(l[1:].clone(), x)},
		{9*n - 1, append(l[2:].clone(), x)},
		{9*100 + 9, append(l[n-100:].clone(), x)},
		{18, append(l[n-1:].clone(), x)},
		{17, model{x}},
		{9, model{x}},
		{8, nil},
	} {
		wantList(t, fmt.Sprint("room ", y.room), lru.Put(l.clone(), x, y.room), y.want)
	}
	for _, at := range []int{0, 1, n / 2, n - 2, n - 1} {
		rest := append(l[:at].clone(), l[at+1:]...)
		got, left, ok := lru.Get(l.clone(), l[at].Key)
		if got != l[at] || !ok {
			t.Fatalf("Get of the place %d answers %s, %v", at, one(got), ok)
		}
		wantList(t, fmt.Sprint("Out of the place ", at), lru.Out(l.clone(), l[at].Key), rest)
		wantList(t, fmt.Sprint("Get of the place ", at), left, append(rest, l[at]))
	}
	wantList(t, "Out of none", lru.Out(l.clone(), "z"), l)
}

// TestP1ListsOfNoPromise: nothing is promised of lists with two items of one key, nor of items whose version isn't one, but that nothing panics.
func TestP1ListsOfNoPromise(t *testing.T) {
	nan := math.NaN()
	odd := []api.Ver{-1, api.Ver(complex(0.5, -3)), api.Ver(complex(nan, nan)), api.Ver(complex(math.Inf(1), math.Inf(-1))), 1 << 60}
	lists := append(nothings(), list("a:x a:x"), list("a:x b: a:y a:"), list(": : :"), list("b:y a:x b:z"))
	for _, v := range odd {
		lists = append(lists, []api.Item{{Key: "a", Ver: v}}, []api.Item{{Key: "b", Ver: v}, {Key: "a", Val: "x", Ver: v}, {Key: "b", Ver: v}})
	}
	for _, l := range lists {
		lru.Size(l)
		for _, key := range []string{"", "a", "b", "z"} {
			lru.Get(l, key)
			lru.Out(l, key)
			for _, v := range odd {
				for _, room := range []int{math.MinInt, -1, 0, 1, 2, 3, 5, 9, math.MaxInt} {
					lru.Put(l, api.Item{Key: key, Val: "v", Ver: v}, room)
				}
			}
		}
	}
}
