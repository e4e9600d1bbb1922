package seen_test

import (
	"fmt"
	"maps"
	"math"
	"slices"
	"strconv"
	"strings"
	"testing"

	"lockgate/api"
	"lockgate/seen"
)

// What a verdict says.
const (
	fresh = 0
	same  = 1
	old   = 2
)

// v is written by hand, so that the tests' versions don't hang on package ver.
func v(epoch, num int) api.Ver { return api.Ver(complex(float64(epoch), float64(num))) }

// call has in all its fields something that hangs on all three: so what stood where is seen.
func call(sess, num int, res string) api.Seen {
	mix := uint(sess)*13 + uint(num)*5
	for i := range len(res) {
		mix += uint(res[i])
	}
	n := int(mix % 1009)
	return api.Seen{Sess: sess, Num: num, Ver: v(n%7, n), Kind: 1 + n%5, Code: n % 9, Res: res, HasRes: n%2 == 0}
}

// parse reads a call such as 5.2:c: the session, the number, and what was answered.
func parse(s string) api.Seen {
	numbers, res, _ := strings.Cut(s, ":")
	sess, num, _ := strings.Cut(numbers, ".")
	return call(whole(sess), whole(num), res)
}

// whole knows the ends of int by name, and both next to them.
func whole(s string) int {
	switch s {
	case "least":
		return math.MinInt
	case "least+":
		return math.MinInt + 1
	case "most-":
		return math.MaxInt - 1
	case "most":
		return math.MaxInt
	}
	n, err := strconv.Atoi(s)
	if err != nil {
		panic(err)
	}
	return n
}

// list reads calls with gaps between them.
func list(s string) []api.Seen {
	var l []api.Seen
	for _, part := range strings.Fields(s) {
		l = append(l, parse(part))
	}
	return l
}

// ints are at the ends of int, about nought, and where other kinds of numbers have their ends.
func ints() []int {
	return []int{
		math.MinInt, math.MinInt + 1, -1<<53 - 1, -1 << 53, -1<<32 - 1, -1 << 32, -1 << 31, -1000, -2, -1,
		0, 1, 2, 7, 1000, 1<<31 - 1, 1 << 31, 1 << 32, 1<<32 + 1, api.MaxCount, 1 << 53, 1<<53 + 1, 1<<53 + 2, math.MaxInt - 1, math.MaxInt,
	}
}

// about are a number, those next to it, nought, and both ends of int.
func about(n int) []int {
	l := []int{math.MinInt, 0, n, math.MaxInt}
	if n > math.MinInt {
		l = append(l, n-1)
	}
	if n < math.MaxInt {
		l = append(l, n+1)
	}
	slices.Sort(l)
	return slices.Compact(l)
}

// model has the sessions' calls in no order, and is put in order when it is asked.
type model map[int]api.Seen

func of(l []api.Seen) model {
	m := model{}
	for _, s := range l {
		m[s.Sess] = s
	}
	return m
}

func (m model) clone() model { return maps.Clone(m) }

// verdict is by the chapter's words.
func (m model) verdict(sess, num int) int {
	was, ok := m[sess]
	if ok && was.Num == num {
		return same
	}
	if ok && was.Num > num {
		return old
	}
	return fresh
}

func (m model) put(s api.Seen) {
	if m.verdict(s.Sess, s.Num) == fresh {
		m[s.Sess] = s
	}
}

func (m model) list() []api.Seen {
	var l []api.Seen
	for _, sess := range slices.Sorted(maps.Keys(m)) {
		l = append(l, m[sess])
	}
	return l
}

// wantList holds a whole list against the one that is asked for: of every call all that it has, in their order.
func wantList(t *testing.T, what any, got, want []api.Seen) {
	t.Helper()
	if !slices.Equal(got, want) {
		t.Fatalf("%v: the list is %s; asked for is %s", what, told(got), told(want))
	}
}

func wantFound(t *testing.T, l []api.Seen, sess int, want api.Seen, there bool) {
	t.Helper()
	if s, ok := seen.Find(l, sess); ok != there || s != want {
		t.Fatalf("Find(%s, %d) = %s, %v; asked for is %s, %v", told(l), sess, one(s), ok, one(want), there)
	}
}

func wantVerdict(t *testing.T, l []api.Seen, sess, num, want int) {
	t.Helper()
	if got := seen.Verdict(l, sess, num); got != want {
		t.Fatalf("Verdict(%s, %d, %d) = %d; asked for is %d", told(l), sess, num, got, want)
	}
}

// wantAll holds the list, and what is answered about it, against the model: of its sessions, those next to them, and those at the ends.
func wantAll(t *testing.T, what any, l []api.Seen, m model) {
	t.Helper()
	wantList(t, what, l, m.list())
	for _, sess := range append(slices.Collect(maps.Keys(m)), 0) {
		for _, near := range about(sess) {
			s, ok := m[near]
			wantFound(t, l, near, s, ok)
			for _, num := range about(s.Num) {
				wantVerdict(t, l, near, num, m.verdict(near, num))
			}
		}
	}
}

// wantPut puts the call to both, holds the answer against the model, and answers it.
func wantPut(t *testing.T, what any, l []api.Seen, s api.Seen, m model) []api.Seen {
	t.Helper()
	got := seen.Put(l, s)
	m.put(s)
	wantList(t, fmt.Sprintf("%v: Put(%s, %s)", what, told(l), one(s)), got, m.list())
	return got
}

func one(s api.Seen) string {
	return fmt.Sprintf("%d.%d:%s(%v %d %d %v)", s.Sess, s.Num, brief(s.Res), s.Ver, s.Kind, s.Code, s.HasRes)
}

// told keeps what a test tells short.
func told(l []api.Seen) string {
	var parts []string
	for _, s := range l[:min(len(l), 6)] {
		parts = append(parts, one(s))
	}
	if len(l) > 6 {
		parts = append(parts, fmt.Sprintf("and %d more", len(l)-6))
	}
	return "[" + strings.Join(parts, "; ") + "]"
}

func brief(s string) string {
	if len(s) <= 12 {
		return fmt.Sprintf("%q", s)
	}
	return fmt.Sprintf("%q.. of %d bytes", s[:12], len(s))
}

// chance is the same row of numbers at each run.
type chance uint64

// any is a number of all 64 bits.
func (c *chance) any() uint64 {
	*c = *c*6364136223846793005 + 1442695040888963407
	x := uint64(*c)
	return x ^ x>>29
}

func (c *chance) below(n int) int { return int(c.any() >> 33 % uint64(n)) }

// number is one of few, or, now and then, one at an edge, or anywhere.
func (c *chance) number(few int) int {
	switch c.below(16) {
	case 0:
		return int(c.any())
	case 1:
		return ints()[c.below(len(ints()))]
	}
	return c.below(few) - few/2
}

// call is one of few sessions and numbers, with something of its own to answer.
func (c *chance) call(sessions, numbers int) api.Seen {
	return call(c.number(sessions), c.number(numbers), strconv.Itoa(c.below(1000)))
}

// list is a right one of so many calls at most.
func (c *chance) list(most, sessions, numbers int) []api.Seen {
	m := model{}
	for range c.below(most + 1) {
		s := c.call(sessions, numbers)
		m[s.Sess] = s
	}
	return m.list()
}

// many is a list of so many sessions, three apart, about nought.
func many(n int) []api.Seen {
	var l []api.Seen
	for i := range n {
		l = append(l, call(3*(i-n/2), i%50, strconv.Itoa(i)))
	}
	return l
}
