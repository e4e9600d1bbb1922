package store_test

import (
	"fmt"
	"math"
	"reflect"
	"slices"
	"strings"
	"testing"

	"lockgate/api"
	"lockgate/disk"
	"lockgate/store"
)

// P10.4: what is handed in stays; what is answered is new memory.

// roomy has the message's lists with room for more, and something there.
func roomy(m api.Msg) api.Msg {
	m.Entries = spacious(m.Entries, put("behind", 7, 7, "behind"))
	m.Chain = spacious(m.Chain, api.Member{Node: 7})
	m.Views = spacious(m.Views, api.View{Shard: 7})
	m.Image.Log = spacious(m.Image.Log, put("behind", 7, 7, "behind"))
	m.Image.Seen = spacious(m.Image.Seen, api.Seen{Num: 7})
	return m
}

func spacious[T any](l []T, x T) []T {
	n := len(l)
	l = slices.Clone(l)
	for range n + 3 {
		l = append(l, x)
	}
	return l[:n]
}

// opensUp is a copy of the message whose lists have what there is room for, too.
func opensUp(m api.Msg) api.Msg {
	m.Entries = slices.Clone(m.Entries[:cap(m.Entries)])
	m.Chain = slices.Clone(m.Chain[:cap(m.Chain)])
	m.Views = slices.Clone(m.Views[:cap(m.Views)])
	m.Image.Log = slices.Clone(m.Image.Log[:cap(m.Image.Log)])
	m.Image.Seen = slices.Clone(m.Image.Seen[:cap(m.Image.Seen)])
	return m
}

// over writes over all that a list has, and that there is room for.
func over[T any](l []T, x T) {
	l = l[:cap(l)]
	for i := range l {
		l[i] = x
	}
}

func overMsg(m api.Msg) {
	over(m.Entries, put("turned", 8, 8, "turned"))
	over(m.Chain, api.Member{Node: 8})
	over(m.Views, api.View{Shard: 8})
	over(m.Image.Log, put("turned", 8, 8, "turned"))
	over(m.Image.Seen, api.Seen{Num: 8})
}

// TestP10_4MessagesStay as they are, with what there is room for in their lists, the disk up or down.
func TestP10_4MessagesStay(t *testing.T) {
	for _, n := range []int{-1, 0, 1, 3} {
		p := full(t, 2)
		p.d.Arm(n)
		for _, x := range []api.Msg{
			flush(0, 2, v(2, 2), put("a", 2, 5, "x"), put("b", 2, 1, "old"), put("a", 2, 4, "y"), del("c", 2, 6)),
			bigFlush(1, 2, longLog, "big", 9),
			flush(0, 1, 0, put("z", 9, 9, "no")),
			fence(1, 3), read(0, "a"), {Kind: api.Beat}, fence(5, 1),
		} {
			m := roomy(dressed(x))
			ahead := opensUp(m)
			p.s.Handle(m)
			if !reflect.DeepEqual(opensUp(m), ahead) {
				t.Fatalf("armed with %d: %s is turned", n, one(m))
			}
		}
	}
}

// TestP10_4MessagesAreWrittenOver by whoever handed them in: that turns neither the store nor the disk.
func TestP10_4MessagesAreWrittenOver(t *testing.T) {
	rows(someMsgs(), 3, func(row []api.Msg) {
		p := started(t, 2)
		for _, x := range row {
			if x.Kind == 0 {
				p.reopen(t, "a row")
				continue
			}
			m := roomy(dressed(x))
			p.s.Handle(m)
			p.m.handle(p.r, dressed(x))
			overMsg(m)
		}
		p.check(t, all(row))
	})
}

// TestP10_4OneMemoryForAll: the entries of each message lie where those of the one ahead lay.
func TestP10_4OneMemoryForAll(t *testing.T) {
	p := started(t, 1)
	es := make([]api.Entry, 3)
	for i := range 30 {
		for k := range es {
			es[k] = put(fmt.Sprint("k", (i+k)%7), 1, 3*i+k, strings.Repeat("v", i*k*10))
			es[k].Del = (i+k)%4 == 0
		}
		p.do(t, fmt.Sprint("message ", i), flush(0, 0, v(1, i), es[:i%4]...))
	}
}

// TestP10_4RowsAreWrittenOver: what Rows answers is new memory, each time.
func TestP10_4RowsAreWrittenOver(t *testing.T) {
	p := full(t, 2)
	p.do(t, "ahead", flush(0, 2, 0, put("c", 3, 1, "x"), put("d", 3, 2, "y")), bigFlush(1, 2, longLog, "big", 9))
	for range 2 {
		for n := range 2 {
			first, second := p.s.Rows(n), p.s.Rows(n)
			over(first, api.Row{Key: "turned"})
			if !slices.Equal(second, p.m.parts[n].list()) {
				t.Fatalf("two answers share memory: %s", told(second))
			}
			_ = append(second, api.Row{Key: "more"})
			slices.Reverse(second)
			p.check(t, "written over")
			p.do(t, "written over", read(n, "a"), read(n, "turned"), read(n, "c"), flush(n, 2, 0, put("e", 4, n, "z")))
		}
		p.reopen(t, "written over")
	}
}

// TestP10_4RowsStay as they were answered, whatever is done then.
func TestP10_4RowsStay(t *testing.T) {
	p := full(t, 1)
	was := p.s.Rows(0)
	want := slices.Clone(was)
	p.do(t, "behind", flush(0, 2, v(9, 9), put("a", 9, 10, "new"), put("0", 9, 11, "first"), del("c", 9, 12)), bigFlush(0, 2, longLog, "big", 9))
	if !slices.Equal(was, want) {
		t.Errorf("the rows are %s then; they were %s", told(was), told(want))
	}
}

// TestP10_4AnswersAreWrittenOver: the next one is as it is to be.
func TestP10_4AnswersAreWrittenOver(t *testing.T) {
	p := full(t, 2)
	for range 3 {
		for _, x := range []api.Msg{fence(0, 1), fence(0, 2), flush(0, 1, 0), flush(0, 2, 0, put("c", 3, 1, "x")), read(0, "a"), read(0, "b"), read(0, "c")} {
			want, _ := p.m.answers(x)
			p.m.handle(p.r, x)
			first, _ := p.s.Handle(x)
			second, _ := p.s.Handle(read(1, "a"))
			over(first, api.Msg{Kind: 77})
			_ = append(first, api.Msg{Kind: 78})
			if len(second) != 1 || second[0].Kind != api.Value {
				t.Fatalf("two answers share memory: %s", all(second))
			}
			p.check(t, "written over")
			if x.Kind == api.Read {
				wantAnswers(t, p.s, x, want)
			}
		}
	}
}

// TestP10_4ClonesStayApart: stores of a disk and of its clone know nothing of each other, and two stores nothing either.
func TestP10_4ClonesStayApart(t *testing.T) {
	p := full(t, 2)
	c := opened(t, p.m, p.d.Clone())
	q := started(t, 2)
	for i := range 20 {
		p.do(t, "one", flush(0, 2, v(3, i), put(fmt.Sprint("k", i%3), 3, i+1, pattern(i*60))))
		c.do(t, "the other one", flush(1, 2, v(3, 0), del(fmt.Sprint("k", i%3), 3, i+1)), fence(0, i))
		q.do(t, "a third one", fence(1, i))
		p.check(t, "one, behind the others")
	}
}

// TestP10_4DiskIsWrittenOver: what the store has hangs no more on the bytes that it was opened of.
func TestP10_4DiskIsWrittenOver(t *testing.T) {
	p := full(t, 1)
	p.reopen(t, "opened")
	d := p.d.Clone()
	s, e := store.Open(d, 1)
	if e != api.OK {
		t.Fatalf("the error %d", e)
	}
	byHand(d, wipe(0), wipe(1), add(0, pattern(300)), add(1, pattern(300)), sync)
	d.Crash(0, 0)
	p.m.wantIn(t, "the disk is written over", s)
	wantAnswer(t, s, read(0, "a"), api.Msg{Kind: api.Value, Key: "a", Ver: v(2, 1), Has: true, Val: "x"})
}

// P1: every call ends, and none panics.

// anything is messages of which nothing is promised.
func anything() []api.Msg {
	long := strings.Repeat("x", api.MaxText+1)
	many := make([]api.Entry, api.MaxList+1)
	for i := range many {
		many[i] = put(fmt.Sprint(i), 1, i, "x")
	}
	l := []api.Msg{
		{},
		flush(0, 0, 0, many...),
		flush(0, 0, 0, put(long, 1, 1, long)),
		{Kind: api.Read, Key: long},
		{Kind: api.Fence, Epoch: 1, Key: long, Val: long, Chain: make([]api.Member, api.MaxList+1)},
		{Kind: api.Fence, Epoch: 2, Views: make([]api.View, api.MaxList+1)},
		{Kind: api.Flush, Epoch: 2, Image: api.Image{Log: many, Seen: make([]api.Seen, api.MaxList+1)}},
	}
	for _, bad := range notVersions() {
		l = append(l,
			api.Msg{Kind: api.Fence, Epoch: 3, Image: api.Image{Floor: bad, Last: bad}},
			api.Msg{Kind: api.Flush, Epoch: 3, Image: api.Image{Log: []api.Entry{{Ver: bad}}, Seen: []api.Seen{{Ver: bad}}}},
			api.Msg{Kind: api.Read, Image: api.Image{Floor: bad}})
	}
	return l
}

func TestP1Anything(t *testing.T) {
	for _, shards := range []int{1, 3} {
		d := disk.New()
		s, e := store.Open(d, shards)
		if e != api.OK {
			t.Fatalf("the error %d", e)
		}
		for _, m := range anything() {
			s.Handle(m)
			s.Handle(m)
			store.Open(d.Clone(), shards)
		}
	}
}

// TestP1TooManyBytes: of a message that no frame has room for nothing is promised.
func TestP1TooManyBytes(t *testing.T) {
	d := disk.New()
	s, _ := store.Open(d, 1)
	m := flush(0, 0, 0)
	val := pattern(api.MaxText)
	for i := range 260 {
		m.Entries = append(m.Entries, put(fmt.Sprint(i), 1, i, val))
	}
	s.Handle(m)
	s.Handle(flush(0, 0, 0, put("a", 1, 1, "x")))
	store.Open(d, 1)
	s.Rows(0)
}

func TestP1NoStore(t *testing.T) {
	var none *store.Store
	failed, _ := store.Open(nil, 1)
	for _, s := range []*store.Store{none, failed, {}} {
		for _, n := range []int{math.MinInt, -1, 0, 1, math.MaxInt} {
			s.Fence(n)
			s.Floor(n)
			s.Rows(n)
			for _, m := range []api.Msg{fence(n, 1), flush(n, 0, 0, put("a", 1, 1, "x")), read(n, "a"), {Shard: n}} {
				s.Handle(m)
			}
		}
	}
}

// TestP1BehindACrash: of a store whose disk crashed since nothing is promised, nor of two stores of one disk.
func TestP1BehindACrash(t *testing.T) {
	for _, n := range []int{math.MinInt, -1, 0, 1, 5, math.MaxInt} {
		p := full(t, 2)
		other, _ := store.Open(p.d, 2)
		for _, change := range []func(){
			func() { p.d.Crash(n, n) },
			func() { p.d.Wipe(0) },
			func() { p.d.Wipe(1) },
			func() { p.d.Append(0, []byte("bytes")) },
			func() { p.d.Front(0) },
			func() { p.d.Arm(n) },
		} {
			change()
			for _, m := range append(cuts(), fence(0, 9), flush(0, 9, 0, put("a", 9, 9, "x"))) {
				p.s.Handle(m)
				other.Handle(m)
			}
			store.Open(p.d, 2)
		}
	}
}
