package mark_test

import (
	"math"
	"slices"
	"testing"

	"lockgate/mark"
)

// P13.2: what follows of rows of bytes, told one behind the other.

// wasHigh looks at a row from its end: have bytes been high or more, and none low or less, and below high, since?
func wasHigh(row []int, high, low int) bool {
	since := 0
	for i := len(row) - 1; i >= 0; i-- {
		if row[i] >= high {
			return since == 0
		}
		if row[i] <= low && row[i] < high {
			since++
		}
	}
	return false
}

// pair is both marks.
type pair struct{ high, low int }

func pairs() []pair {
	return []pair{
		{10, 4}, {6, 4}, {5, 4}, {4, 4}, {1, 0}, {0, 0}, {0, -1}, {3, -3}, {-4, -10}, {-4, -4}, {100, 0},
		{1 << 40, 1 << 33}, {1<<53 + 1, 1 << 53}, {1<<53 + 2, 1 << 53},
		{math.MinInt, math.MinInt}, {math.MinInt + 1, math.MinInt}, {0, math.MinInt}, {math.MaxInt, math.MinInt},
		{math.MaxInt, 0}, {math.MaxInt, math.MaxInt - 1}, {math.MaxInt, math.MaxInt},
	}
}

// about are bytes at the marks, next to them, between them, and far from them: in order, none twice.
func (p pair) about() []int {
	l := []int{math.MinInt, 0, p.low/2 + p.high/2, math.MaxInt}
	for _, n := range []int{p.low, p.high} {
		l = append(l, n)
		if n > math.MinInt {
			l = append(l, n-1)
		}
		if n < math.MaxInt {
			l = append(l, n+1)
		}
	}
	slices.Sort(l)
	return slices.Compact(l)
}

// step tells a row's last bytes, and holds what it is then against the row.
func (p pair) step(t *testing.T, busy bool, row []int) bool {
	t.Helper()
	bytes := row[len(row)-1]
	next := mark.Next(busy, bytes, p.high, p.low)
	if want := wasHigh(row, p.high, p.low); next != want {
		t.Fatalf("high %d, low %d: behind %v Next is %v", p.high, p.low, row[max(0, len(row)-20):], next)
	}
	if room := mark.Room(busy, bytes, p.high, p.low); room == next {
		t.Fatalf("high %d, low %d: behind %v Room is %v", p.high, p.low, row[max(0, len(row)-20):], room)
	}
	return next
}

// TestP13_2RowsFromTheirEnd holds what rows are held against to answers written out.
func TestP13_2RowsFromTheirEnd(t *testing.T) {
	for _, x := range []struct {
		high, low int
		row       []int
		want      bool
	}{
		{10, 4, nil, false},
		{10, 4, []int{9}, false},
		{10, 4, []int{10}, true},
		{10, 4, []int{10, 5}, true},
		{10, 4, []int{10, 5, 4}, false},
		{10, 4, []int{10, 4, 9}, false},
		{10, 4, []int{10, 4, 9, 11, 5}, true},
		{7, 7, []int{7}, true},
		{7, 7, []int{7, 6}, false},
		{7, 7, []int{7, 6, 8}, true},
	} {
		if got := wasHigh(x.row, x.high, x.low); got != x.want {
			t.Errorf("high %d, low %d: %v is %v", x.high, x.low, x.row, got)
		}
	}
}

func TestP13_2EveryShortRow(t *testing.T) {
	for _, p := range pairs() {
		about := p.about()
		var more func(busy bool, row []int)
		more = func(busy bool, row []int) {
			if len(row) == 4 {
				return
			}
			for _, n := range about {
				longer := append(slices.Clone(row), n)
				more(p.step(t, busy, longer), longer)
			}
		}
		more(false, nil)
	}
}

// chance is the same row of numbers at each run.
type chance uint64

// any is a number of all 64 bits.
func (c *chance) any() uint64 {
	*c = *c*6364136223846793005 + 1442695040888963407
	x := uint64(*c)
	return x ^ x>>29
}

func (c *chance) below(n int) int { return int(c.any() >> 33 % uint64(n)) }

// marks are two by chance: near each other, or anywhere, or the same.
func (c *chance) marks() pair {
	low := c.below(200) - 100
	switch c.below(4) {
	case 0:
		a, b := int(c.any()), int(c.any())
		return pair{max(a, b), min(a, b)}
	case 1:
		return pair{low, low}
	}
	return pair{low + c.below(50), low}
}

// bytes are those about the marks, or near by, or, now and then, anywhere.
func (c *chance) bytes(p pair, about []int) int {
	switch c.below(8) {
	case 0:
		return int(c.any())
	case 1, 2:
		return about[c.below(len(about))]
	}
	return p.low/2 + p.high/2 + c.below(121) - 60
}

func TestP13_2LongRows(t *testing.T) {
	c := chance(1)
	for range 200 {
		p := c.marks()
		about := p.about()
		busy := false
		var row []int
		for range 1000 {
			row = append(row, c.bytes(p, about))
			busy = p.step(t, busy, row)
		}
	}
}

// TestP13_2RisesAndFalls goes up and down by small steps, as a tail's bytes do.
func TestP13_2RisesAndFalls(t *testing.T) {
	c := chance(2)
	for _, p := range []pair{{100, 50}, {60, 59}, {60, 60}, {200, 0}, {1000, 900}} {
		for most := range 9 {
			busy, n := false, 0
			var row []int
			for i := range 3000 {
				by := c.below(most + 2)
				if i/300%2 == 0 {
					n += by
				} else {
					n = max(0, n-by)
				}
				row = append(row, n)
				busy = p.step(t, busy, row)
			}
		}
	}
}

// TestP13_2FromBusy: from busy a row goes on as one that had bytes of high ahead of it.
func TestP13_2FromBusy(t *testing.T) {
	c := chance(3)
	for range 500 {
		p := c.marks()
		about := p.about()
		busy := true
		row := []int{p.high}
		for range 30 {
			row = append(row, c.bytes(p, about))
			busy = p.step(t, busy, row)
		}
	}
}

// between are bytes above low and below high: those next to the marks, and some by chance.
func (c *chance) between(p pair) []int {
	if p.high == p.low || p.high-1 == p.low {
		return nil
	}
	l := []int{p.low + 1, p.high - 1, p.low/2 + p.high/2}
	for range 20 {
		gap := uint64(p.high) - uint64(p.low) - 1
		l = append(l, int(uint64(p.low)+1+c.any()%gap))
	}
	return slices.DeleteFunc(l, func(n int) bool { return n <= p.low || n >= p.high })
}

// TestP13_2BetweenTheMarksItStays as it was, however often such bytes are told.
func TestP13_2BetweenTheMarksItStays(t *testing.T) {
	c := chance(4)
	all := pairs()
	for range 200 {
		all = append(all, c.marks())
	}
	for _, p := range all {
		l := c.between(p)
		for _, was := range []bool{false, true} {
			busy := was
			for i := range 10 * len(l) {
				n := l[i%len(l)]
				if mark.Room(busy, n, p.high, p.low) == was {
					t.Fatalf("high %d, low %d, was %v: Room of %d turned", p.high, p.low, was, n)
				}
				if busy = mark.Next(busy, n, p.high, p.low); busy != was {
					t.Fatalf("high %d, low %d, was %v: Next of %d turned", p.high, p.low, was, n)
				}
			}
		}
	}
}

// TestP13_2SameBytesOnceMore turn nothing, nor do they the third time.
func TestP13_2SameBytesOnceMore(t *testing.T) {
	c := chance(5)
	all := pairs()
	for range 500 {
		all = append(all, c.marks())
	}
	for _, p := range all {
		for _, n := range append(p.about(), c.between(p)...) {
			for _, was := range []bool{false, true} {
				first := mark.Next(was, n, p.high, p.low)
				busy := first
				for range 3 {
					if mark.Room(busy, n, p.high, p.low) == first {
						t.Fatalf("high %d, low %d, was %v: Room of %d once more turned", p.high, p.low, was, n)
					}
					if busy = mark.Next(busy, n, p.high, p.low); busy != first {
						t.Fatalf("high %d, low %d, was %v: Next of %d once more is %v", p.high, p.low, was, n, busy)
					}
				}
			}
		}
	}
}

// TestP13_2MoreBytesAreNeverLessBusy asks for bytes that rise, from busy and from not busy.
func TestP13_2MoreBytesAreNeverLessBusy(t *testing.T) {
	c := chance(6)
	all := pairs()
	for range 500 {
		all = append(all, c.marks())
	}
	for _, p := range all {
		l := append(p.about(), c.between(p)...)
		slices.Sort(l)
		for _, was := range []bool{false, true} {
			ofFewer := false
			for _, n := range l {
				next := mark.Next(was, n, p.high, p.low)
				if ofFewer && !next {
					t.Fatalf("high %d, low %d, was %v: of %d it isn't busy, of fewer bytes it is", p.high, p.low, was, n)
				}
				ofFewer = next
			}
		}
	}
}

// TestP13_2RowsOfMoreBytes: of a row that has as many bytes or more at each place, it is never less busy, at any place.
func TestP13_2RowsOfMoreBytes(t *testing.T) {
	c := chance(7)
	for range 300 {
		p := c.marks()
		about := p.about()
		less, more := false, false
		for i := range 100 {
			a, b := c.bytes(p, about), c.bytes(p, about)
			less = mark.Next(less, min(a, b), p.high, p.low)
			more = mark.Next(more, max(a, b), p.high, p.low)
			if less && !more {
				t.Fatalf("high %d, low %d: at the place %d it is less busy of more bytes", p.high, p.low, i)
			}
		}
	}
}
