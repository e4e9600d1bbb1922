package mark_test

import (
	"math"
	"testing"

	"lockgate/mark"
)

// What is answered of bytes, whatever was: it isn't busy, it is as it was, it is busy.
const (
	not = iota
	stays
	is
)

// want holds both calls, of both that may have been, against the kind.
func want(t *testing.T, bytes, high, low, kind int) {
	t.Helper()
	for _, busy := range []bool{false, true} {
		next := kind == is || kind == stays && busy
		if got := mark.Next(busy, bytes, high, low); got != next {
			t.Errorf("Next(%v, %d, %d, %d) is %v", busy, bytes, high, low, got)
		}
		if got := mark.Room(busy, bytes, high, low); got == next {
			t.Errorf("Room(%v, %d, %d, %d) is %v", busy, bytes, high, low, got)
		}
	}
}

// wantRow tells the bytes one behind the other, from not busy; the letters say what it is behind each: b busy, a dot not.
func wantRow(t *testing.T, high, low int, bytes []int, letters string) {
	t.Helper()
	if len(letters) != len(bytes) {
		t.Fatalf("%d letters of %d bytes", len(letters), len(bytes))
	}
	busy := false
	for i, n := range bytes {
		next := letters[i] == 'b'
		if room := mark.Room(busy, n, high, low); room == next {
			t.Fatalf("high %d, low %d: behind %v Room is %v", high, low, bytes[:i+1], room)
		}
		if busy = mark.Next(busy, n, high, low); busy != next {
			t.Fatalf("high %d, low %d: behind %v Next is %v", high, low, bytes[:i+1], busy)
		}
	}
}

// TestP13_1Example is the chapter's.
func TestP13_1Example(t *testing.T) {
	wantRow(t, 10, 4, []int{9, 10, 5, 4, 9}, ".bb..")
}

func TestP13_1Rows(t *testing.T) {
	for _, x := range []struct {
		high, low int
		bytes     []int
		letters   string
	}{
		{10, 4, nil, ""},
		{10, 4, []int{0}, "."},
		{10, 4, []int{5, 6, 7, 8, 9, 8, 7, 6, 5}, "........."},
		{10, 4, []int{9, 9, 9, 10, 9, 9, 9, 4, 9, 9, 9}, "...bbbb...."},
		{10, 4, []int{11, 9, 5, 3, 5, 9, 11}, "bbb...b"},
		{10, 4, []int{10, 4, 10, 4, 10}, "b.b.b"},
		{10, 4, []int{10, 5, 10, 5, 4, 5, 9, 10, 5, 0}, "bbbb...bb."},
		{10, 4, []int{1 << 40, 5, -1 << 40, 9, 1 << 40}, "bb..b"},
		{100, 50, []int{0, 50, 99, 100, 101, 51, 50, 51, 99, 49, 100}, "...bbb....b"},
		{1, 0, []int{0, 1, 1, 0, 0, 2, -1, 1}, ".bb..b.b"},
		{0, 0, []int{-1, 0, -1, 1, 0, -1}, ".b.bb."},
		{7, 7, []int{6, 7, 6, 8, 7, 7, 5, 6}, ".b.bbb.."},
		{-4, -10, []int{-5, -4, -5, -9, -10, -9, 0, -9, -11}, ".bbb..bb."},
		{4, -4, []int{3, 0, 4, 0, -3, -4, 0, 3, 5}, "..bbb...b"},
	} {
		wantRow(t, x.high, x.low, x.bytes, x.letters)
	}
}

// TestP13_1Calls has all calls about the marks 10 and 4 written out.
func TestP13_1Calls(t *testing.T) {
	for _, x := range []struct{ bytes, kind int }{
		{math.MinInt, not}, {-1 << 32, not}, {-10, not}, {-4, not}, {-1, not}, {0, not}, {1, not}, {3, not}, {4, not},
		{5, stays}, {6, stays}, {7, stays}, {8, stays}, {9, stays},
		{10, is}, {11, is}, {14, is}, {1000, is}, {1 << 32, is}, {1<<32 + 5, is}, {math.MaxInt, is},
	} {
		want(t, x.bytes, 10, 4, x.kind)
	}
}

// TestP13_1MarksApart asks just at each mark, one below and one above it, and for bytes of 0, which may be any of these.
func TestP13_1MarksApart(t *testing.T) {
	for _, x := range []struct{ high, low, nought int }{
		{2, 0, not}, {3, 1, not}, {100, 50, not}, {1 << 20, 1 << 10, not}, {1 << 40, 7, not}, {1 << 62, 0, not},
		{1, -1, stays}, {10, -10, stays}, {1, -1 << 40, stays}, {1 << 40, -1, stays},
		{0, -2, is}, {-1, -3, is}, {-50, -100, is}, {-1 << 10, -1 << 20, is}, {0, -1 << 62, is},
		{1<<53 + 2, 1 << 53, not}, {1<<53 + 3, 1<<53 + 1, not}, {1<<32 + 2, 1 << 32, not}, {1<<31 + 2, 1 << 31, not}, {1 << 32, 2, not},
		{-1<<53 - 1, -1<<53 - 3, is}, {-1 << 32, -1<<32 - 2, is}, {-2, -1 << 32, is},
	} {
		want(t, x.low-1, x.high, x.low, not)
		want(t, x.low, x.high, x.low, not)
		want(t, x.low+1, x.high, x.low, stays)
		want(t, x.high-1, x.high, x.low, stays)
		want(t, x.high, x.high, x.low, is)
		want(t, x.high+1, x.high, x.low, is)
		want(t, 0, x.high, x.low, x.nought)
		want(t, math.MinInt, x.high, x.low, not)
		want(t, math.MaxInt, x.high, x.low, is)
	}
}

// TestP13_1SameMarks: bytes that are both high or more and low or less are busy, and none are between.
func TestP13_1SameMarks(t *testing.T) {
	for _, both := range []int{0, 1, -1, 7, -7, 100, 1 << 31, 1 << 32, 1<<53 + 1, -1 << 31, -1 << 32, -1<<53 - 1, math.MaxInt - 1, math.MinInt + 1} {
		want(t, both-1, both, both, not)
		want(t, both, both, both, is)
		want(t, both+1, both, both, is)
		want(t, math.MinInt, both, both, not)
		want(t, math.MaxInt, both, both, is)
	}
}

// TestP13_1MarksOneApart: no bytes are between them, either.
func TestP13_1MarksOneApart(t *testing.T) {
	for _, low := range []int{0, 1, -1, -2, 7, -7, 100, 1<<31 - 1, 1<<32 - 1, 1 << 53, -1<<31 - 1, -1<<32 - 1, -1<<53 - 1, math.MaxInt - 2, math.MinInt + 1} {
		want(t, low-1, low+1, low, not)
		want(t, low, low+1, low, not)
		want(t, low+1, low+1, low, is)
		want(t, low+2, low+1, low, is)
		want(t, math.MinInt, low+1, low, not)
		want(t, math.MaxInt, low+1, low, is)
	}
}

// TestP13_1EndsOfInt has marks at the ends, where one less or one more isn't an int.
func TestP13_1EndsOfInt(t *testing.T) {
	const least, most = math.MinInt, math.MaxInt
	for _, x := range []struct {
		high, low                            int
		ofLeast, ofMost, ofNextOne, ofNought int
	}{
		{least, least, is, is, is, is},
		{most, most, not, is, not, not},
		{most, least, not, is, stays, stays},
		{least + 1, least, not, is, is, is},
		{most, most - 1, not, is, not, not},
		{0, least, not, is, stays, is},
		{most, 0, not, is, not, not},
		{1, least, not, is, stays, stays},
		{most, -1, not, is, not, stays},
	} {
		want(t, least, x.high, x.low, x.ofLeast)
		want(t, most, x.high, x.low, x.ofMost)
		want(t, least+1, x.high, x.low, x.ofNextOne)
		want(t, 0, x.high, x.low, x.ofNought)
	}
	want(t, most-1, most, most, not)
	want(t, most-1, most, least, stays)
	want(t, most-1, most, most-1, not)
	want(t, most-1, most, 0, stays)
}

// TestP13_1NothingIsKept tells several rows in turn: what one is doesn't turn the others.
func TestP13_1NothingIsKept(t *testing.T) {
	rows := []struct {
		high, low int
		bytes     []int
		letters   string
	}{
		{10, 4, []int{9, 10, 5, 4, 9}, ".bb.."},
		{10, 4, []int{10, 9, 9, 9, 4}, "bbbb."},
		{10, 4, []int{4, 5, 9, 5, 10}, "....b"},
		{5, 5, []int{5, 4, 5, 6, 4}, "b.bb."},
		{2000, 1000, []int{9, 1999, 2000, 1001, 1000}, "..bb."},
	}
	busy := make([]bool, len(rows))
	for step := range 5 {
		for i, x := range rows {
			busy[i] = mark.Next(busy[i], x.bytes[step], x.high, x.low)
			if busy[i] != (x.letters[step] == 'b') {
				t.Fatalf("row %d, step %d: Next is %v", i, step, busy[i])
			}
		}
	}
}

// TestP1MarksOfNoPromise: of a low that is more than high nothing is promised, but that nothing panics.
func TestP1MarksOfNoPromise(t *testing.T) {
	ends := []int{math.MinInt, math.MinInt + 1, -1 << 32, -7, -1, 0, 1, 7, 1 << 32, math.MaxInt - 1, math.MaxInt}
	for _, bytes := range ends {
		for _, high := range ends {
			for _, low := range ends {
				for _, busy := range []bool{false, true} {
					mark.Next(busy, bytes, high, low)
					mark.Room(busy, bytes, high, low)
				}
			}
		}
	}
}
