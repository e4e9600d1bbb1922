package seen_test

import (
	"fmt"
	"math"
	"slices"
	"strconv"
	"testing"

	"lockgate/api"
	"lockgate/seen"
)

// P14.2: what follows of rows of calls, put one behind the other.

// row is what was put, in its order.
type row []api.Seen

func (r row) String() string { return "behind " + told(r[max(0, len(r)-6):]) }

func (r row) put(l []api.Seen) []api.Seen {
	for _, s := range r {
		l = seen.Put(l, s)
	}
	return l
}

// holds looks at the whole row: of the session's calls, the first one of those of the greatest number.
func (r row) holds(sess int) (api.Seen, bool) {
	var own []api.Seen
	for _, s := range r {
		if s.Sess == sess {
			own = append(own, s)
		}
	}
	for _, s := range own {
		if !slices.ContainsFunc(own, func(x api.Seen) bool { return x.Num > s.Num }) {
			return s, true
		}
	}
	return api.Seen{}, false
}

// sessions are those of the row, each once.
func (r row) sessions() []int {
	var l []int
	for _, s := range r {
		if !slices.Contains(l, s.Sess) {
			l = append(l, s.Sess)
		}
	}
	return l
}

// wantRising: the sessions rise, so each is there at most once.
func wantRising(t *testing.T, what any, l []api.Seen) {
	t.Helper()
	for i := 1; i < len(l); i++ {
		if l[i-1].Sess >= l[i].Sess {
			t.Fatalf("%v: the session %d stands ahead of %d", what, l[i-1].Sess, l[i].Sess)
		}
	}
}

// wantHeld: what was put is the same, lesser numbers are old, greater ones new.
func wantHeld(t *testing.T, l []api.Seen, s api.Seen) {
	t.Helper()
	wantFound(t, l, s.Sess, s, true)
	for _, num := range append(about(s.Num), ints()...) {
		switch {
		case num < s.Num:
			wantVerdict(t, l, s.Sess, num, old)
		case num > s.Num:
			wantVerdict(t, l, s.Sess, num, fresh)
		default:
			wantVerdict(t, l, s.Sess, num, same)
		}
	}
}

// wantOf holds a list against the row of which it came.
func (r row) wantOf(t *testing.T, l []api.Seen) {
	t.Helper()
	wantRising(t, r, l)
	all := r.sessions()
	if len(l) != len(all) {
		t.Fatalf("%v: of %d sessions the list is %s", r, len(all), told(l))
	}
	for _, sess := range all {
		s, _ := r.holds(sess)
		wantHeld(t, l, s)
	}
}

// wantTwice puts each call of the row once more, and the row once more as it was: nothing turns.
func (r row) wantTwice(t *testing.T, l []api.Seen) {
	t.Helper()
	for _, s := range r {
		wantList(t, fmt.Sprintf("%v, %s once more", r, one(s)), seen.Put(l, s), l)
	}
	wantList(t, fmt.Sprintf("%v, all once more", r), r.put(l), l)
}

// TestP14_2RowsHold holds what lists are held against to answers written out.
func TestP14_2RowsHold(t *testing.T) {
	for _, x := range []struct {
		row  string
		sess int
		want string
	}{
		{"1.1:a", 1, "1.1:a"},
		{"1.1:a 1.2:b", 1, "1.2:b"},
		{"1.2:b 1.1:a", 1, "1.2:b"},
		{"1.2:b 1.2:c", 1, "1.2:b"},
		{"1.1:a 1.2:b 1.2:c 1.1:d", 1, "1.2:b"},
		{"2.9:a 1.1:b 2.9:c 1.3:d 3.1:e 1.2:f", 1, "1.3:d"},
		{"2.9:a 1.1:b 2.9:c 1.3:d 3.1:e 1.2:f", 2, "2.9:a"},
		{"1.least:a 1.-1:b 1.least:c", 1, "1.-1:b"},
	} {
		if got, ok := row(list(x.row)).holds(x.sess); !ok || got != parse(x.want) {
			t.Errorf("%q holds %s of %d", x.row, one(got), x.sess)
		}
	}
	if got, ok := row(list("2.1:a")).holds(1); ok || got != (api.Seen{}) {
		t.Errorf("of a session that there isn't: %s", one(got))
	}
}

func TestP14_2EveryShortRow(t *testing.T) {
	alphabet := list("0.0 -1.2:a 1.1:b 1.1:c 1.2:d 1.3:e 2.2:f 2.1:g 2.1")
	var more func(r row, l []api.Seen)
	more = func(r row, l []api.Seen) {
		r.wantOf(t, l)
		r.wantTwice(t, l)
		if len(r) == 4 {
			return
		}
		for _, s := range alphabet {
			more(append(slices.Clone(r), s), seen.Put(l, s))
		}
	}
	more(nil, nil)
}

// TestP14_2EveryShortRowOfOneSession is longer, and has both ends of int.
func TestP14_2EveryShortRowOfOneSession(t *testing.T) {
	for _, ends := range []string{"3.least:a 3.0:b 3.0:c 3.1:d 3.most:e", "least.-1:a least.-2:b least.least:c least.7:d", "most.most-:a most.most:b most.8:c most.8:d"} {
		alphabet := list(ends)
		var more func(r row, l []api.Seen)
		more = func(r row, l []api.Seen) {
			r.wantOf(t, l)
			if len(r) == 5 {
				return
			}
			for _, s := range alphabet {
				more(append(slices.Clone(r), s), seen.Put(l, s))
			}
		}
		more(nil, nil)
	}
}

func TestP14_2LongRows(t *testing.T) {
	c := chance(2)
	for i := range 60 {
		sessions, numbers := 1+c.below(40), 1+c.below(30)
		var r row
		var l []api.Seen
		for range 150 {
			s := c.call(sessions, numbers)
			r = append(r, s)
			l = seen.Put(l, s)
			held, _ := r.holds(s.Sess)
			wantHeld(t, l, held)
			wantRising(t, i, l)
		}
		r.wantOf(t, l)
		r.wantTwice(t, l)
	}
}

// TestP14_2PutIsTheSame: whatever list it is put to, a new call is the same then; of one that isn't new nothing changes.
func TestP14_2PutIsTheSame(t *testing.T) {
	c := chance(3)
	for i := range 5000 {
		l, s := c.list(10, 20, 8), c.call(20, 8)
		was := seen.Verdict(l, s.Sess, s.Num)
		got := seen.Put(l, s)
		wantRising(t, i, got)
		if was != fresh {
			wantList(t, fmt.Sprint("not new ", i), got, l)
			continue
		}
		wantHeld(t, got, s)
		_, there := seen.Find(l, s.Sess)
		if more := len(got) - len(l); there && more != 0 || !there && more != 1 {
			t.Fatalf("put %s to %s: %s", one(s), told(l), told(got))
		}
	}
}

// TestP14_2OthersStay: of sessions that aren't the call's nothing changes, whatever it is.
func TestP14_2OthersStay(t *testing.T) {
	c := chance(4)
	for range 3000 {
		l, s := c.list(10, 20, 8), c.call(20, 8)
		got := seen.Put(l, s)
		for _, x := range append(l, c.call(20, 8), c.call(20, 8)) {
			if x.Sess == s.Sess {
				continue
			}
			stood, ok := seen.Find(l, x.Sess)
			wantFound(t, got, x.Sess, stood, ok)
			for _, num := range append(about(x.Num), about(stood.Num)...) {
				wantVerdict(t, got, x.Sess, num, seen.Verdict(l, x.Sess, num))
			}
		}
	}
}

// TestP14_2UntilANewerOne puts others' calls, and its own session's that aren't newer, behind a call; then a newer one.
func TestP14_2UntilANewerOne(t *testing.T) {
	c := chance(5)
	for range 200 {
		s := call(c.number(20), c.number(20)/2, "held")
		l := seen.Put(nil, s)
		for range 40 {
			x := c.call(20, 8)
			if x.Sess == s.Sess {
				x.Num = min(x.Num, s.Num)
			}
			l = seen.Put(l, x)
			wantHeld(t, l, s)
		}
		newer := call(s.Sess, s.Num/2+1<<62, "newer")
		l = seen.Put(l, newer)
		wantHeld(t, l, newer)
		wantVerdict(t, l, s.Sess, s.Num, old)
	}
}

// orders calls with each order of the calls.
func orders(r row, do func(row)) {
	var more func(at int)
	more = func(at int) {
		if at == len(r) {
			do(r)
			return
		}
		for i := at; i < len(r); i++ {
			r[at], r[i] = r[i], r[at]
			more(at + 1)
			r[at], r[i] = r[i], r[at]
		}
	}
	more(0)
}

// TestP14_2OrderIsNothing: of calls no two of which are the same, the list is one in whatever order they come.
func TestP14_2OrderIsNothing(t *testing.T) {
	c := chance(6)
	for i := range 150 {
		var r row
		for len(r) < 1+i%5 {
			s := c.call(4, 6)
			if !slices.ContainsFunc(r, func(x api.Seen) bool { return x.Sess == s.Sess && x.Num == s.Num }) {
				r = append(r, s)
			}
		}
		l := c.list(3, 4, 2)
		l = slices.DeleteFunc(l, func(s api.Seen) bool {
			return slices.ContainsFunc(r, func(x api.Seen) bool { return x.Sess == s.Sess && x.Num == s.Num })
		})
		want := r.put(l)
		orders(r, func(r row) { wantList(t, r, r.put(l), want) })
	}
}

// TestP14_2OneByOne counts as a client does, in some sessions at once; each call comes twice, and late once more.
func TestP14_2OneByOne(t *testing.T) {
	var l []api.Seen
	for num := range 200 {
		for sess := range 5 {
			s := call(sess*100, num, strconv.Itoa(num))
			wantVerdict(t, l, s.Sess, num, fresh)
			l = seen.Put(l, s)
			wantHeld(t, l, s)
			l = seen.Put(l, call(s.Sess, num, "doubled"))
			wantHeld(t, l, s)
			if num > 3 {
				l = seen.Put(l, call(s.Sess, num-3, "late"))
				wantHeld(t, l, s)
			}
		}
		if len(l) != 5 {
			t.Fatalf("of 5 sessions the list is %s", told(l))
		}
	}
}

// TestP14_2FromLeastToMost goes up in steps that are too great for the difference of two numbers to be an int.
func TestP14_2FromLeastToMost(t *testing.T) {
	for _, sess := range ints() {
		l := list("-77.1:a 77.1:b")
		var r row = slices.Clone(l)
		for _, num := range []int{math.MinInt, math.MinInt + 1, -1, 0, 1, math.MaxInt - 1, math.MaxInt} {
			wantVerdict(t, l, sess, num, fresh)
			s := call(sess, num, "up")
			l, r = seen.Put(l, s), append(r, s)
			wantHeld(t, l, s)
		}
		r.wantOf(t, l)
		for _, num := range []int{math.MaxInt - 1, 1, 0, -1, math.MinInt + 1, math.MinInt} {
			wantVerdict(t, l, sess, num, old)
			l = seen.Put(l, call(sess, num, "down"))
		}
		r.wantOf(t, l)
	}
}
