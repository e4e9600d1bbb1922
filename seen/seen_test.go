package seen_test

import (
	"fmt"
	"math"
	"slices"
	"strings"
	"testing"

	"lockgate/api"
	"lockgate/seen"
)

// TestP14_1Example is the chapter's.
func TestP14_1Example(t *testing.T) {
	l := seen.Put(nil, api.Seen{Sess: 3, Num: 5})
	wantVerdict(t, l, 3, 5, same)
	wantVerdict(t, l, 3, 4, old)
	wantVerdict(t, l, 3, 6, fresh)
	for _, num := range []int{math.MinInt, -1, 0, 4, 5, 6, math.MaxInt} {
		wantVerdict(t, l, 4, num, fresh)
	}
}

func TestP14_1Find(t *testing.T) {
	for _, x := range []struct {
		l    string
		sess int
		want string
	}{
		{"5.1:a", 5, "5.1:a"},
		{"2.3:b 5.2:c", 2, "2.3:b"},
		{"2.3:b 5.2:c", 5, "5.2:c"},
		{"2.3:b 5.2:c 9.1:d", 2, "2.3:b"},
		{"2.3:b 5.2:c 9.1:d", 5, "5.2:c"},
		{"2.3:b 5.2:c 9.1:d", 9, "9.1:d"},
		{"1.1:a 2.3:b 5.2:c 9.1:d", 1, "1.1:a"},
		{"1.1:a 2.3:b 5.2:c 9.1:d", 2, "2.3:b"},
		{"1.1:a 2.3:b 5.2:c 9.1:d", 5, "5.2:c"},
		{"1.1:a 2.3:b 5.2:c 9.1:d", 9, "9.1:d"},
		{"-9.4:a -2.3:b 0.0:c 2.3:d 9.4:e", -9, "-9.4:a"},
		{"-9.4:a -2.3:b 0.0:c 2.3:d 9.4:e", -2, "-2.3:b"},
		{"-9.4:a -2.3:b 0.0:c 2.3:d 9.4:e", 0, "0.0:c"},
		{"-9.4:a -2.3:b 0.0:c 2.3:d 9.4:e", 2, "2.3:d"},
		{"-9.4:a -2.3:b 0.0:c 2.3:d 9.4:e", 9, "9.4:e"},
		{"least.most:a least+.0:b -1.least:c most-.7:d most.least:e", math.MinInt, "least.most:a"},
		{"least.most:a least+.0:b -1.least:c most-.7:d most.least:e", math.MinInt + 1, "least+.0:b"},
		{"least.most:a least+.0:b -1.least:c most-.7:d most.least:e", -1, "-1.least:c"},
		{"least.most:a least+.0:b -1.least:c most-.7:d most.least:e", math.MaxInt - 1, "most-.7:d"},
		{"least.most:a least+.0:b -1.least:c most-.7:d most.least:e", math.MaxInt, "most.least:e"},
	} {
		wantFound(t, list(x.l), x.sess, parse(x.want), true)
	}
}

// TestP14_1FindNone: the zero call, and false; a number of a call, or a place, is no session.
func TestP14_1FindNone(t *testing.T) {
	for _, x := range []struct {
		l    string
		sess []int
	}{
		{"5.1:a", []int{math.MinInt, -5, -1, 0, 1, 4, 6, 55, 1<<32 + 5, math.MaxInt}},
		{"2.3:b 5.2:c", []int{math.MinInt, -2, 0, 1, 3, 4, 6, math.MaxInt}},
		{"2.3:b 5.2:c 9.1:d", []int{math.MinInt, -9, 0, 1, 3, 4, 6, 7, 8, 10, 1<<32 + 9, math.MaxInt}},
		{"-9.4:a -2.3:b 2.3:d 9.4:e", []int{math.MinInt, -10, -8, -3, -1, 0, 1, 3, 4, 8, 10, math.MaxInt}},
		{"least.1:a most.2:b", []int{math.MinInt + 1, -1, 0, 1, 2, math.MaxInt - 1}},
		{"least+.1:a most-.2:b", []int{math.MinInt, -1, 0, 1, 2, math.MaxInt}},
	} {
		for _, sess := range x.sess {
			wantFound(t, list(x.l), sess, api.Seen{}, false)
		}
	}
}

// TestP14_1FindZeroCall: a call that is zero all over is one, with true.
func TestP14_1FindZeroCall(t *testing.T) {
	for _, l := range [][]api.Seen{{{}}, {{Sess: -1}, {}}, {{}, {Sess: 1}}, seen.Put(nil, api.Seen{}), seen.Put(list("-3.1 3.1"), api.Seen{})} {
		wantFound(t, l, 0, api.Seen{}, true)
		wantVerdict(t, l, 0, -1, old)
		wantVerdict(t, l, 0, 0, same)
		wantVerdict(t, l, 0, 1, fresh)
		wantFound(t, l, 2, api.Seen{}, false)
		wantVerdict(t, l, 2, 0, fresh)
	}
}

func TestP14_1Put(t *testing.T) {
	for _, x := range []struct{ l, s, want string }{
		{"", "3.5:x", "3.5:x"},
		{"", "0.0", "0.0"},
		{"5.1:a", "3.1:x", "3.1:x 5.1:a"},
		{"5.1:a", "7.1:x", "5.1:a 7.1:x"},
		{"5.1:a", "5.2:x", "5.2:x"},
		{"5.1:a", "5.1:x", "5.1:a"},
		{"5.1:a", "5.0:x", "5.1:a"},
		{"5.1:a 9.2:b", "2.7:x", "2.7:x 5.1:a 9.2:b"},
		{"5.1:a 9.2:b", "4.0:x", "4.0:x 5.1:a 9.2:b"},
		{"5.1:a 9.2:b", "6.0:x", "5.1:a 6.0:x 9.2:b"},
		{"5.1:a 9.2:b", "8.9:x", "5.1:a 8.9:x 9.2:b"},
		{"5.1:a 9.2:b", "10.0:x", "5.1:a 9.2:b 10.0:x"},
		{"5.1:a 9.2:b", "5.2:x", "5.2:x 9.2:b"},
		{"5.1:a 9.2:b", "9.3:x", "5.1:a 9.3:x"},
		{"5.1:a 9.2:b", "9.2:x", "5.1:a 9.2:b"},
		{"5.1:a 9.2:b", "9.2:b", "5.1:a 9.2:b"},
		{"5.1:a 9.2:b", "9.1:x", "5.1:a 9.2:b"},
		{"2.3:b 5.2:c 9.1:d", "2.4:x", "2.4:x 5.2:c 9.1:d"},
		{"2.3:b 5.2:c 9.1:d", "5.3:x", "2.3:b 5.3:x 9.1:d"},
		{"2.3:b 5.2:c 9.1:d", "9.2:x", "2.3:b 5.2:c 9.2:x"},
		{"2.3:b 5.2:c 9.1:d", "5.1000:x", "2.3:b 5.1000:x 9.1:d"},
		{"2.3:b 5.2:c 9.1:d", "5.most:x", "2.3:b 5.most:x 9.1:d"},
		{"2.3:b 5.2:c 9.1:d", "5.2:x", "2.3:b 5.2:c 9.1:d"},
		{"2.3:b 5.2:c 9.1:d", "5.2", "2.3:b 5.2:c 9.1:d"},
		{"2.3:b 5.2:c 9.1:d", "5.1:x", "2.3:b 5.2:c 9.1:d"},
		{"2.3:b 5.2:c 9.1:d", "5.0:x", "2.3:b 5.2:c 9.1:d"},
		{"2.3:b 5.2:c 9.1:d", "5.least:x", "2.3:b 5.2:c 9.1:d"},
		{"2.3:b 5.2:c 9.1:d", "least.least:x", "least.least:x 2.3:b 5.2:c 9.1:d"},
		{"2.3:b 5.2:c 9.1:d", "most.least:x", "2.3:b 5.2:c 9.1:d most.least:x"},
		{"2.3:b 5.2:c 9.1:d", "0.0", "0.0 2.3:b 5.2:c 9.1:d"},
		{"-2.-3:b -1.-1:c 1.-7:d", "-3.0:x", "-3.0:x -2.-3:b -1.-1:c 1.-7:d"},
		{"-2.-3:b -1.-1:c 1.-7:d", "-2.-2:x", "-2.-2:x -1.-1:c 1.-7:d"},
		{"-2.-3:b -1.-1:c 1.-7:d", "-2.-4:x", "-2.-3:b -1.-1:c 1.-7:d"},
		{"-2.-3:b -1.-1:c 1.-7:d", "-1.0:x", "-2.-3:b -1.0:x 1.-7:d"},
		{"-2.-3:b -1.-1:c 1.-7:d", "0.-9:x", "-2.-3:b -1.-1:c 0.-9:x 1.-7:d"},
		{"least.least:b most.most:d", "least.most:x", "least.most:x most.most:d"},
		{"least.least:b most.most:d", "most.least:x", "least.least:b most.most:d"},
		{"least.most:b most.least:d", "most.least+:x", "least.most:b most.least+:x"},
		{"least.most:b most.least:d", "least.most-:x", "least.most:b most.least:d"},
		{"least.most:b most.least:d", "least+.0:x", "least.most:b least+.0:x most.least:d"},
		{"least.most:b most.least:d", "most-.0:x", "least.most:b most-.0:x most.least:d"},
	} {
		wantList(t, fmt.Sprintf("Put(%q, %q)", x.l, x.s), seen.Put(list(x.l), parse(x.s)), list(x.want))
	}
}

func TestP14_1Verdict(t *testing.T) {
	const l = "-9.0:a 2.3:b 5.least:c 9.most:d 20.-4:e"
	for _, x := range []struct{ sess, num, want int }{
		{2, math.MinInt, old}, {2, -3, old}, {2, 0, old}, {2, 1, old}, {2, 2, old},
		{2, 3, same},
		{2, 4, fresh}, {2, 5, fresh}, {2, 1 << 40, fresh}, {2, math.MaxInt, fresh},
		{-9, math.MinInt, old}, {-9, -1, old}, {-9, 0, same}, {-9, 1, fresh}, {-9, math.MaxInt, fresh},
		{5, math.MinInt, same}, {5, math.MinInt + 1, fresh}, {5, -1, fresh}, {5, 0, fresh}, {5, math.MaxInt, fresh},
		{9, math.MinInt, old}, {9, 0, old}, {9, 1, old}, {9, math.MaxInt - 1, old}, {9, math.MaxInt, same},
		{20, -5, old}, {20, -4, same}, {20, -3, fresh}, {20, 4, fresh}, {20, math.MinInt, old}, {20, math.MaxInt, fresh},
		{3, math.MinInt, fresh}, {3, 0, fresh}, {3, 3, fresh}, {3, math.MaxInt, fresh},
		{9 + 1<<32, 1, fresh}, {-2, 3, fresh}, {math.MinInt, 0, fresh}, {math.MaxInt, 0, fresh}, {0, 0, fresh}, {0, -1, fresh},
	} {
		wantVerdict(t, list(l), x.sess, x.num, x.want)
	}
}

// nothings are lists of no call, of all makes: some with calls in the room behind them.
func nothings() [][]api.Seen {
	l := list("2.3:b 5.2:c 9.1:d")
	return [][]api.Seen{nil, {}, make([]api.Seen, 0, 8), l[:0], l[1:1], l[3:], l[:0:0]}
}

func TestP14_1NoCalls(t *testing.T) {
	for i, l := range nothings() {
		for _, sess := range ints() {
			wantFound(t, l, sess, api.Seen{}, false)
			for _, num := range ints() {
				wantVerdict(t, l, sess, num, fresh)
				s := call(sess, num, "x")
				wantList(t, fmt.Sprintf("to nothing %d", i), seen.Put(l, s), []api.Seen{s})
			}
		}
		for _, sess := range []int{2, 5, 9} {
			wantFound(t, l, sess, api.Seen{}, false)
		}
	}
}

// TestP14_1OneCall has each edge as what stands there, and as what is asked and put.
func TestP14_1OneCall(t *testing.T) {
	for _, sess := range ints() {
		for _, num := range ints() {
			stood := call(sess, num, "stood")
			l := []api.Seen{stood}
			for _, n := range ints() {
				s := call(sess, n, "put")
				wantFound(t, l, sess, stood, true)
				switch {
				case n > num:
					wantVerdict(t, l, sess, n, fresh)
					wantList(t, one(s), seen.Put(l, s), []api.Seen{s})
				case n == num:
					wantVerdict(t, l, sess, n, same)
					wantList(t, one(s), seen.Put(l, s), l)
				default:
					wantVerdict(t, l, sess, n, old)
					wantList(t, one(s), seen.Put(l, s), l)
				}
			}
		}
	}
}

// TestP14_1OneOtherCall: of a session that isn't the one's, all are new, and stand on their side of it.
func TestP14_1OneOtherCall(t *testing.T) {
	for _, sess := range ints() {
		stood := call(sess, 0, "stood")
		l := []api.Seen{stood}
		for _, other := range append(ints(), about(sess)...) {
			if other == sess {
				continue
			}
			wantFound(t, l, other, api.Seen{}, false)
			for _, num := range ints() {
				s := call(other, num, "put")
				wantVerdict(t, l, other, num, fresh)
				want := []api.Seen{stood, s}
				if other < sess {
					want = []api.Seen{s, stood}
				}
				wantList(t, one(s), seen.Put(l, s), want)
			}
		}
	}
}

// TestP14_1NumbersAtTheirEdges asks for one less, the same, and one more than what stands there, in the midst of others.
func TestP14_1NumbersAtTheirEdges(t *testing.T) {
	for _, num := range ints() {
		l := []api.Seen{call(-3, 1, "a"), call(4, num, "stood"), call(8, 2, "b")}
		if num > math.MinInt {
			wantVerdict(t, l, 4, num-1, old)
			wantList(t, "one less", seen.Put(l, call(4, num-1, "x")), l)
		}
		wantVerdict(t, l, 4, num, same)
		wantList(t, "the same", seen.Put(l, call(4, num, "x")), l)
		if num < math.MaxInt {
			wantVerdict(t, l, 4, num+1, fresh)
			wantList(t, "one more", seen.Put(l, call(4, num+1, "x")), []api.Seen{l[0], call(4, num+1, "x"), l[2]})
		}
	}
}

// TestP14_1EachCount has lists of even and odd lengths, and at each every place and every gap.
func TestP14_1EachCount(t *testing.T) {
	for n := range 40 {
		for _, first := range []int{10, -10 * n, -5 * n, math.MinInt, math.MaxInt - 10*n} {
			var l []api.Seen
			for i := range n {
				l = append(l, call(first+10*i, i%7, fmt.Sprint("of ", i)))
			}
			what := fmt.Sprintf("%d calls from %d on", n, first)
			for at := range n {
				wantPlace(t, what, l, at)
			}
			for at := range n + 1 {
				if at > 0 || first > math.MinInt {
					wantGap(t, what, l, at, first+10*at-1)
				}
			}
		}
	}
}

// wantPlace finds the call of a place, and puts others of its session.
func wantPlace(t *testing.T, what string, l []api.Seen, at int) {
	t.Helper()
	stood := l[at]
	wantFound(t, l, stood.Sess, stood, true)
	wantVerdict(t, l, stood.Sess, stood.Num-1, old)
	wantVerdict(t, l, stood.Sess, stood.Num, same)
	wantVerdict(t, l, stood.Sess, stood.Num+1, fresh)
	newer := call(stood.Sess, stood.Num+1, "newer")
	want := slices.Clone(l)
	want[at] = newer
	wantList(t, fmt.Sprintf("%s, newer at %d", what, at), seen.Put(l, newer), want)
	wantList(t, fmt.Sprintf("%s, the same at %d", what, at), seen.Put(l, call(stood.Sess, stood.Num, "other")), l)
	wantList(t, fmt.Sprintf("%s, older at %d", what, at), seen.Put(l, call(stood.Sess, stood.Num-1, "older")), l)
}

// wantGap finds nothing of a session ahead of the place, and puts a call there.
func wantGap(t *testing.T, what string, l []api.Seen, at, sess int) {
	t.Helper()
	wantFound(t, l, sess, api.Seen{}, false)
	for _, num := range []int{math.MinInt, -1, 0, 3, math.MaxInt} {
		wantVerdict(t, l, sess, num, fresh)
		s := call(sess, num, "put")
		var want []api.Seen
		want = append(want, l[:at]...)
		want = append(want, s)
		want = append(want, l[at:]...)
		wantList(t, fmt.Sprintf("%s, new at %d", what, at), seen.Put(l, s), want)
	}
}

// TestP14_1ManySessions finds each of them, and none beside them.
func TestP14_1ManySessions(t *testing.T) {
	for _, n := range []int{4095, 4096, 20000} {
		l := many(n)
		for i, s := range l {
			wantFound(t, l, s.Sess, l[i], true)
			wantVerdict(t, l, s.Sess, s.Num-1, old)
			wantVerdict(t, l, s.Sess, s.Num, same)
			wantVerdict(t, l, s.Sess, s.Num+1, fresh)
			for _, sess := range []int{s.Sess - 1, s.Sess + 1} {
				wantFound(t, l, sess, api.Seen{}, false)
				wantVerdict(t, l, sess, s.Num, fresh)
			}
		}
		what := fmt.Sprint(n, " sessions")
		for _, at := range []int{0, 1, 2, n/2 - 1, n / 2, n/2 + 1, n - 2, n - 1} {
			wantPlace(t, what, l, at)
			wantGap(t, what, l, at, l[at].Sess-1)
		}
		wantGap(t, what, l, n, l[n-1].Sess+1)
	}
}

// TestP14_1FoundInFewSteps asks so often of so long a list that walking through it would outlast the time that tests have: calls are found by binary search.
func TestP14_1FoundInFewSteps(t *testing.T) {
	l := make([]api.Seen, 1<<20)
	for i := range l {
		l[i] = api.Seen{Sess: 2 * i, Num: i % 5}
	}
	twoIs := [5]int{fresh, fresh, same, old, old}
	for i := range 1 << 20 {
		at := i * 12345 % len(l)
		wantFound(t, l, 2*at, l[at], true)
		wantVerdict(t, l, 2*at, 2, twoIs[l[at].Num])
		wantVerdict(t, l, 2*at+1, 2, fresh)
	}
}

// TestP14_1PutOneByOne makes one list in many orders: from the front, from the end, from both, and mixed.
func TestP14_1PutOneByOne(t *testing.T) {
	const n = 301
	want := many(n)
	var l [4][]api.Seen
	for i := range n {
		l[0] = seen.Put(l[0], want[i])
		l[1] = seen.Put(l[1], want[n-1-i])
		l[2] = seen.Put(l[2], want[i%2*(n-1)+(1-i%2*2)*(i/2)])
		l[3] = seen.Put(l[3], want[i*100%n])
	}
	for i := range l {
		wantList(t, fmt.Sprint("the order ", i), l[i], want)
	}
}

// texts are of all lengths and kinds.
func texts() []string {
	every := make([]byte, 256)
	for i := range every {
		every[i] = byte(i)
	}
	return []string{"", "a", "\x00", "a\x00", "\xff", "\xc3", "\u00e9", "e\u0301", "\u65e5", " ", "\n", string(every), strings.Repeat("long", 1<<14), strings.Repeat("z", 1<<16+1)}
}

// versions are the zero one, small ones, and the greatest.
func versions() []api.Ver {
	return []api.Ver{0, v(1, 0), v(0, 1), v(1, 1), v(2, 7), v(api.MaxCount, 0), v(0, api.MaxCount), v(api.MaxCount, api.MaxCount)}
}

// others are calls of one session and number that are like each other in nothing else.
func others(sess, num int) []api.Seen {
	l := []api.Seen{{Sess: sess, Num: num}}
	for _, text := range texts() {
		l = append(l, api.Seen{Sess: sess, Num: num, Res: text}, api.Seen{Sess: sess, Num: num, Res: text, HasRes: true})
	}
	for _, ver := range versions() {
		l = append(l, api.Seen{Sess: sess, Num: num, Ver: ver})
	}
	for _, n := range ints() {
		l = append(l, api.Seen{Sess: sess, Num: num, Kind: n}, api.Seen{Sess: sess, Num: num, Code: n})
	}
	return l
}

// TestP14_1WhatElseItHas comes out as it went in, takes a newer call's whole place, and says nothing of what is new.
func TestP14_1WhatElseItHas(t *testing.T) {
	front, end := call(1, 1, "front"), call(9, 9, "end")
	newer, alike, older := others(5, 4), others(5, 3), others(5, 2)
	for i, stood := range alike {
		l := seen.Put([]api.Seen{front, end}, stood)
		wantList(t, "put", l, []api.Seen{front, stood, end})
		wantFound(t, l, 5, stood, true)
		wantVerdict(t, l, 5, 2, old)
		wantVerdict(t, l, 5, 3, same)
		wantVerdict(t, l, 5, 4, fresh)
		for j := range alike {
			wantList(t, fmt.Sprint("newer ", i, " ", j), seen.Put(l, newer[j]), []api.Seen{front, newer[j], end})
			wantList(t, fmt.Sprint("alike ", i, " ", j), seen.Put(l, alike[j]), l)
			wantList(t, fmt.Sprint("older ", i, " ", j), seen.Put(l, older[j]), l)
		}
	}
}

// TestP14_1ByChance holds all calls against lists that are kept in a map.
func TestP14_1ByChance(t *testing.T) {
	c := chance(1)
	for i := range 3000 {
		l := c.list(12, 20, 6)
		m := of(l)
		wantAll(t, fmt.Sprint("list ", i), l, m)
		for range 5 {
			next := m.clone()
			s := c.call(20, 6)
			wantAll(t, fmt.Sprint("put ", i), wantPut(t, i, l, s, next), next)
		}
	}
}

// full is an entry that has something of its own in each field.
var full = api.Entry{
	Ver: v(3, 4), Kind: api.Swap, Key: "key", Val: "value", Write: true, Del: true,
	Sess: 11, Num: 12, Code: api.Other, Res: "result", HasRes: true,
}

func wantOf(t *testing.T, e api.Entry, want api.Seen) {
	t.Helper()
	if got := seen.Of(e); got != want {
		t.Errorf("Of(%+v) = %s; asked for is %s", e, one(got), one(want))
	}
}

func TestP14_1Of(t *testing.T) {
	wantOf(t, api.Entry{}, api.Seen{})
	wantOf(t, full, api.Seen{Sess: 11, Num: 12, Ver: v(3, 4), Kind: api.Swap, Code: api.Other, Res: "result", HasRes: true})
	wantOf(t, api.Entry{Sess: 1}, api.Seen{Sess: 1})
	wantOf(t, api.Entry{Num: 1}, api.Seen{Num: 1})
	wantOf(t, api.Entry{Ver: v(0, 1)}, api.Seen{Ver: v(0, 1)})
	wantOf(t, api.Entry{Ver: v(1, 0)}, api.Seen{Ver: v(1, 0)})
	wantOf(t, api.Entry{Kind: 1}, api.Seen{Kind: 1})
	wantOf(t, api.Entry{Code: 1}, api.Seen{Code: 1})
	wantOf(t, api.Entry{Res: "r"}, api.Seen{Res: "r"})
	wantOf(t, api.Entry{HasRes: true}, api.Seen{HasRes: true})
}

// TestP14_1OfLooksAtNothingElse: key, value, and whether it writes or deletes, aren't seen.
func TestP14_1OfLooksAtNothingElse(t *testing.T) {
	want := seen.Of(full)
	for _, text := range texts() {
		for bits := range 4 {
			e := full
			e.Key, e.Val, e.Write, e.Del = text, text+"!", bits&1 != 0, bits&2 != 0
			wantOf(t, e, want)
			wantOf(t, api.Entry{Key: text, Val: text, Write: bits&1 != 0, Del: bits&2 != 0}, api.Seen{})
		}
	}
}

// TestP14_1OfEachSet has each set of fields that are told, and the others zero.
func TestP14_1OfEachSet(t *testing.T) {
	for bits := range 1 << 7 {
		var e api.Entry
		var want api.Seen
		for i, set := range []func(){
			func() { e.Sess, want.Sess = 11, 11 },
			func() { e.Num, want.Num = 12, 12 },
			func() { e.Ver, want.Ver = v(3, 4), v(3, 4) },
			func() { e.Kind, want.Kind = api.Swap, api.Swap },
			func() { e.Code, want.Code = api.Gone, api.Gone },
			func() { e.Res, want.Res = "result", "result" },
			func() { e.HasRes, want.HasRes = true, true },
		} {
			if bits>>i&1 != 0 {
				set()
			}
		}
		wantOf(t, e, want)
	}
}

func TestP14_1OfValues(t *testing.T) {
	for _, n := range ints() {
		wantOf(t, api.Entry{Sess: n}, api.Seen{Sess: n})
		wantOf(t, api.Entry{Num: n}, api.Seen{Num: n})
		wantOf(t, api.Entry{Kind: n}, api.Seen{Kind: n})
		wantOf(t, api.Entry{Code: n}, api.Seen{Code: n})
	}
	for _, text := range texts() {
		wantOf(t, api.Entry{Res: text}, api.Seen{Res: text})
		wantOf(t, api.Entry{Res: text, HasRes: true}, api.Seen{Res: text, HasRes: true})
	}
	for _, ver := range versions() {
		wantOf(t, api.Entry{Ver: ver}, api.Seen{Ver: ver})
	}
}

// TestP14_1OfIsPut: what is seen by an entry is what is found, until a newer entry is seen.
func TestP14_1OfIsPut(t *testing.T) {
	e := full
	l := seen.Put(list("2.3:b 20.1:d"), seen.Of(e))
	wantList(t, "put", l, []api.Seen{parse("2.3:b"), seen.Of(e), parse("20.1:d")})
	wantVerdict(t, l, e.Sess, e.Num, same)
	e.Num, e.Res = e.Num+1, "next"
	l = seen.Put(l, seen.Of(e))
	wantFound(t, l, e.Sess, seen.Of(e), true)
	wantVerdict(t, l, e.Sess, e.Num-1, old)
}

// TestP1ListsOfNoPromise: nothing is promised of lists whose sessions don't rise, nor of calls whose version isn't one, but that nothing panics.
func TestP1ListsOfNoPromise(t *testing.T) {
	nan := math.NaN()
	odd := []api.Ver{-1, api.Ver(complex(0.5, -3)), api.Ver(complex(nan, nan)), api.Ver(complex(math.Inf(1), math.Inf(-1))), 1 << 60}
	lists := append(nothings(), list("5.1 5.2"), list("9.1 5.1 2.1"), list("5.1 2.1 9.1 5.3 2.2"), list("most.1 least.1"), list("0.0 0.0 0.0 0.0"))
	for _, l := range lists {
		for _, sess := range append(ints(), 5, 9) {
			seen.Find(l, sess)
			for _, num := range ints() {
				seen.Verdict(l, sess, num)
				for _, ver := range odd {
					seen.Put(l, seen.Of(api.Entry{Sess: sess, Num: num, Ver: ver}))
				}
			}
		}
	}
}
