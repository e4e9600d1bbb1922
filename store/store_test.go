package store_test

import (
	"fmt"
	"math"
	"slices"
	"testing"

	"lockgate/api"
	"lockgate/store"
)

// P10.2: what is answered, and what is done.

// TestP10_2Example is the chapter's, with answers written out.
func TestP10_2Example(t *testing.T) {
	p := started(t, 1)
	p.do(t, "the example", fence(0, 1))
	wantAnswer(t, p.s, fence(0, 1), api.Msg{Kind: api.Fenced, Epoch: 1})
	wantAnswer(t, p.s, flush(0, 0, 0, put("a", 1, 1, "x")), api.Msg{Kind: api.Flushed, Code: int(api.ErrOld)})
	wantAnswer(t, p.s, flush(0, 1, 0, put("a", 1, 1, "x")), api.Msg{Kind: api.Flushed, Epoch: 1})
	if l := p.s.Rows(0); !slices.Equal(l, []api.Row{has("a", 1, 1, "x")}) {
		t.Errorf("the rows are %s", told(l))
	}
}

// wantAnswer asks for one answer, written out, and OK.
func wantAnswer(t *testing.T, s *store.Store, m, want api.Msg) {
	t.Helper()
	wantAnswers(t, s, m, []api.Msg{want})
}

func wantAnswers(t *testing.T, s *store.Store, m api.Msg, want []api.Msg) {
	t.Helper()
	got, e := s.Handle(m)
	if e != api.OK || !slices.Equal(inBytes(got), inBytes(want)) {
		t.Fatalf("%s: it answers %s, %d; asked for is %s", one(m), all(got), e, all(want))
	}
}

// TestP10_2AnswersWrittenOut has all fields of a message filled, and those of its answer that are to be.
func TestP10_2AnswersWrittenOut(t *testing.T) {
	p := started(t, 2)
	p.do(t, "ahead", fence(1, 3), flush(1, 3, 0, put("a", 3, 1, "x"), del("b", 3, 2)))
	for _, x := range []struct{ m, want api.Msg }{
		{fence(1, 2), api.Msg{Kind: api.Fenced, Epoch: 3}},
		{fence(1, 3), api.Msg{Kind: api.Fenced, Epoch: 3}},
		{fence(1, 4), api.Msg{Kind: api.Fenced, Epoch: 4}},
		{flush(1, 3, 0, put("a", 4, 1, "y")), api.Msg{Kind: api.Flushed, Epoch: 3, Num: 12, Code: 6}},
		{flush(1, 5, 0, put("a", 4, 1, "y")), api.Msg{Kind: api.Flushed, Epoch: 5, Num: 12, Code: 6}},
		{flush(1, 4, 0, put("c", 4, 1, "y")), api.Msg{Kind: api.Flushed, Epoch: 4, Num: 12}},
		{read(1, "a"), api.Msg{Kind: api.Value, Num: 12, Key: "a", Ver: v(3, 1), Has: true, Val: "x"}},
		{read(1, "b"), api.Msg{Kind: api.Value, Num: 12, Key: "b", Ver: v(3, 2)}},
		{read(1, "c"), api.Msg{Kind: api.Value, Num: 12, Key: "c", Ver: v(4, 1), Has: true, Val: "y"}},
		{read(1, "d"), api.Msg{Kind: api.Value, Num: 12, Key: "d"}},
		{read(0, "a"), api.Msg{Kind: api.Value, Num: 12, Key: "a"}},
	} {
		x.want.From, x.want.To, x.want.Boot, x.want.Shard = 70, 5, 7, x.m.Shard
		wantAnswer(t, p.s, dressed(x.m), x.want)
	}
}

// TestP10_2Senders: whoever asks is answered.
func TestP10_2Senders(t *testing.T) {
	p := started(t, 1)
	ends := []int{math.MinInt, -1, 0, 1, 2, 99, 100, math.MaxInt}
	for _, m := range []api.Msg{fence(0, 0), flush(0, 0, 0), flush(0, 1, 0), read(0, "a")} {
		for _, from := range ends {
			for _, to := range ends {
				m.From, m.To, m.Boot, m.SBoot, m.Num = from, to, 3, from-1, to-1
				p.ask(t, "ends", m)
			}
		}
	}
}

// someMsgs has what turns something, and what doesn't, in two shards. An empty Kind stands for a store that is opened anew.
func someMsgs() []api.Msg {
	return []api.Msg{
		{},
		fence(0, 1),
		fence(0, 2),
		fence(1, 1),
		flush(0, 0, 0, put("a", 0, 1, "x"), put("b", 0, 2, "y")),
		flush(0, 1, v(0, 1), put("a", 0, 1, "late"), del("b", 1, 2), put("c", 1, 3, "")),
		flush(0, 1, v(1, 2)),
		flush(1, 0, 0, put("a", 0, 1, "of 1")),
		read(0, "a"),
		read(0, "b"),
		read(1, "a"),
	}
}

// play does the messages without a look at what comes of it but the answers.
func (p *pair) play(t *testing.T, name string, l []api.Msg) {
	t.Helper()
	for _, x := range l {
		if x.Kind == 0 {
			p.reopen(t, name)
		} else if e := p.ask(t, name, x); e != api.OK {
			t.Fatalf("%s, %s: the error %d", name, one(x), e)
		}
	}
}

// TestP10_2EachShortRow, with the store opened anew in between, and in the end a clone of its disk.
func TestP10_2EachShortRow(t *testing.T) {
	rows(someMsgs(), 4, func(row []api.Msg) {
		p := started(t, 2)
		p.play(t, "a row", row)
		p.check(t, fmt.Sprintf("behind %s", all(row)))
	})
}

func TestP10_2EachShortRowDressed(t *testing.T) {
	var l []api.Msg
	for _, m := range someMsgs() {
		if m.Kind != 0 {
			m = dressed(m)
		}
		l = append(l, m)
	}
	rows(l, 3, func(row []api.Msg) {
		p := started(t, 3)
		p.play(t, "a dressed row", row)
		p.check(t, fmt.Sprintf("behind %s", all(row)))
	})
}

// TestP10_2EachShortRowOfAClone goes on with a store that is opened on a clone, at each place of the row; the first one goes its own way.
func TestP10_2EachShortRowOfAClone(t *testing.T) {
	rows(someMsgs(), 3, func(row []api.Msg) {
		for at := range row {
			p := started(t, 2)
			p.play(t, "a row", row[:at])
			c := opened(t, p.m, p.d.Clone())
			p.play(t, "the first one", []api.Msg{flush(0, p.m.parts[0].fence, v(5, 5), put("z", 6, 6, "first"))})
			c.play(t, "the clone", row[at:])
			c.check(t, "the clone")
			p.check(t, "the first one")
		}
	})
}

// epochs are whole numbers of all sorts: no bound is told for a message's.
func epochs() []int {
	return []int{math.MinInt, math.MinInt + 1, -2, -1, 0, 1, 2, 3, api.MaxCount - 1, api.MaxCount, api.MaxCount + 1, math.MaxInt - 1, math.MaxInt}
}

// TestP10_2Fences: each epoch behind each one, and what is on the disk: nothing is added where the fence stays.
func TestP10_2Fences(t *testing.T) {
	for _, a := range epochs() {
		for _, b := range epochs() {
			p := started(t, 2)
			p.do(t, "fences", fence(1, a), fence(1, b), fence(1, a), fence(1, b))
			if want := max(0, a, b); p.s.Fence(1) != want || p.s.Fence(0) != 0 {
				t.Fatalf("behind %d and %d the fences are %d and %d", a, b, p.s.Fence(0), p.s.Fence(1))
			}
		}
	}
}

// TestP10_2FlushesOfEachEpoch: of the fence's alone something is done.
func TestP10_2FlushesOfEachEpoch(t *testing.T) {
	for _, a := range epochs() {
		for _, b := range epochs() {
			p := started(t, 2)
			p.do(t, "flushes", fence(0, a), flush(0, b, v(1, 1), put("a", 1, 2, "x")), flush(1, b, v(1, 1)))
			taken := b == max(a, 0)
			if n := len(p.s.Rows(0)); (n == 1) != taken || (p.s.Floor(0) == v(1, 1)) != taken {
				t.Fatalf("the fence %d, a flush of %d: %d rows, the floor %v", a, b, n, p.s.Floor(0))
			}
			if (p.s.Floor(1) == v(1, 1)) != (b == 0) {
				t.Fatalf("the other shard's fence 0, a flush of %d: the floor %v", b, p.s.Floor(1))
			}
		}
	}
}

// parts are numbers at the edges of a version's.
func parts() []int { return []int{0, 1, 2, api.MaxCount - 1, api.MaxCount} }

func versions() []api.Ver {
	var l []api.Ver
	for _, epoch := range parts() {
		for _, num := range parts() {
			l = append(l, v(epoch, num))
		}
	}
	return l
}

// TestP10_2Floors: each one behind each one, with nothing else, and with entries of both versions.
func TestP10_2Floors(t *testing.T) {
	for _, a := range versions() {
		for _, b := range versions() {
			p := started(t, 1)
			p.do(t, "floors", flush(0, 0, a), flush(0, 0, b))
			want := a
			if behind(b, a) {
				want = b
			}
			if p.s.Floor(0) != want {
				t.Fatalf("behind %v and %v the floor is %v", a, b, p.s.Floor(0))
			}
			ea, eb := put("a", 0, 0, "a"), put("b", 0, 0, "b")
			ea.Ver, eb.Ver = a, b
			p = started(t, 1)
			p.play(t, "floors", []api.Msg{flush(0, 0, 0, ea, eb), flush(0, 0, b), flush(0, 0, a, ea, eb), {}, flush(0, 0, b, ea, eb)})
			p.check(t, fmt.Sprint("the floors ", a, " and ", b))
			ea.Del, eb.Del = true, true
			p = started(t, 1)
			p.play(t, "floors", []api.Msg{flush(0, 0, 0, ea, eb), flush(0, 0, b), {}, flush(0, 0, 0, ea), flush(0, 0, a, eb)})
			p.check(t, fmt.Sprint("the floors ", a, " and ", b, ", deletions"))
		}
	}
}

// TestP10_2FloorFirst: the floor that comes with entries holds for them, and for the rows that they leave.
func TestP10_2FloorFirst(t *testing.T) {
	s := started(t, 1).s
	s.Handle(flush(0, 0, 0, put("a", 1, 1, "x"), del("b", 1, 2), del("c", 1, 4)))
	s.Handle(flush(0, 0, v(1, 3), put("a", 1, 3, "no"), del("d", 1, 3), put("e", 1, 2, "no"), del("f", 1, 4), put("g", 1, 4, "yes")))
	want := []api.Row{has("a", 1, 1, "x"), gone("c", 1, 4), gone("f", 1, 4), has("g", 1, 4, "yes")}
	if l := s.Rows(0); !slices.Equal(l, want) || s.Floor(0) != v(1, 3) {
		t.Errorf("%s, %v; asked for is %s", told(l), s.Floor(0), told(want))
	}
	s.Handle(flush(0, 0, v(1, 1), put("b", 1, 3, "back"), put("b", 1, 1, "back")))
	if l := s.Rows(0); !slices.Equal(l, want) || s.Floor(0) != v(1, 3) {
		t.Errorf("an earlier floor, and a key that was collected: %s, %v; asked for is %s", told(l), s.Floor(0), told(want))
	}
	s.Handle(flush(0, 0, v(1, 4)))
	want = []api.Row{has("a", 1, 1, "x"), has("g", 1, 4, "yes")}
	if l := s.Rows(0); !slices.Equal(l, want) {
		t.Errorf("no entries: %s; asked for is %s", told(l), told(want))
	}
}

// TestP10_2Entries has rows written out that entries of all sorts leave.
func TestP10_2Entries(t *testing.T) {
	dropped := put("a", 1, 5, "x")
	dropped.Write = false
	full := del("a", 1, 5)
	full.Val, full.Sess, full.Num, full.Code, full.Res, full.HasRes = "rest", 1, 2, 3, "res", true
	for i, x := range []struct {
		es   []api.Entry
		want []api.Row
	}{
		{nil, []api.Row{has("m", 1, 1, "was")}},
		{[]api.Entry{dropped}, []api.Row{has("m", 1, 1, "was")}},
		{[]api.Entry{full}, []api.Row{gone("a", 1, 5), has("m", 1, 1, "was")}},
		{[]api.Entry{put("m", 1, 1, "same")}, []api.Row{has("m", 1, 1, "was")}},
		{[]api.Entry{put("m", 0, 9, "earlier")}, []api.Row{has("m", 1, 1, "was")}},
		{[]api.Entry{put("m", 1, 2, "")}, []api.Row{has("m", 1, 2, "")}},
		{[]api.Entry{del("m", 2, 0)}, []api.Row{gone("m", 2, 0)}},
		{[]api.Entry{put("b", 1, 2, "b"), put("a", 1, 3, "a"), put("b", 1, 4, "c"), put("b", 1, 3, "d"), put("b", 1, 4, "e")}, []api.Row{has("a", 1, 3, "a"), has("b", 1, 4, "c"), has("m", 1, 1, "was")}},
		{[]api.Entry{del("b", 1, 2), put("b", 1, 3, "new")}, []api.Row{has("b", 1, 3, "new"), has("m", 1, 1, "was")}},
		{[]api.Entry{put("b", 1, 2, "old"), del("b", 1, 3)}, []api.Row{gone("b", 1, 3), has("m", 1, 1, "was")}},
		{[]api.Entry{put("", 1, 2, "empty"), put("\xff", 1, 3, "\x00")}, []api.Row{has("", 1, 2, "empty"), has("m", 1, 1, "was"), has("\xff", 1, 3, "\x00")}},
		{[]api.Entry{put("z", 0, 1, "floor"), put("y", 0, 2, "behind")}, []api.Row{has("m", 1, 1, "was"), has("y", 0, 2, "behind")}},
	} {
		name := fmt.Sprint("case ", i)
		p := started(t, 1)
		p.do(t, name, flush(0, 0, v(0, 1), put("m", 1, 1, "was")), flush(0, 0, 0, x.es...))
		if l := p.s.Rows(0); !slices.Equal(l, x.want) {
			t.Errorf("%s: %s; asked for is %s", name, told(l), told(x.want))
		}
		for _, r := range append(x.want, api.Row{Key: "none"}) {
			p.do(t, name, read(0, r.Key))
		}
	}
}

// TestP10_2GreatTexts are within their bounds.
func TestP10_2GreatTexts(t *testing.T) {
	key, val := pattern(api.MaxText), pattern(api.MaxText)
	p := started(t, 1)
	p.do(t, "great texts", flush(0, 0, 0, put(key, 1, 1, val), put(key[:api.MaxText-1], 1, 2, "")), read(0, key), read(0, key[:api.MaxText-1]), read(0, key[1:]))
	wantAnswer(t, p.s, read(0, key), api.Msg{Kind: api.Value, Key: key, Ver: v(1, 1), Has: true, Val: val})
}

// TestP10_2FullList has as many entries as a message may have, and as many rows as a shard may.
func TestP10_2FullList(t *testing.T) {
	var es []api.Entry
	for i := range api.MaxList {
		es = append(es, put(fmt.Sprint("key ", i*7%api.MaxList), 1, i+1, fmt.Sprint(i)))
	}
	p := started(t, 1)
	p.do(t, "a full list", flush(0, 0, 0, es...), flush(0, 0, v(1, 1), es...))
	if n := len(p.s.Rows(0)); n != api.MaxList {
		t.Errorf("%d rows", n)
	}
	wantFront(t, "a full list", p.d, framed(p.m.picture()))
	p.reopen(t, "a full list")
	p.do(t, "a full list, opened", read(0, "key 7"), flush(0, 0, v(1, 9)))
}

// TestP10_2ReadsOfEachEpoch: whoever reads needn't know the fence.
func TestP10_2ReadsOfEachEpoch(t *testing.T) {
	p := started(t, 1)
	p.do(t, "ahead", fence(0, 2), flush(0, 2, 0, put("a", 2, 1, "x"), del("b", 2, 2), put("c", 2, 3, "")))
	for _, epoch := range epochs() {
		for _, key := range []string{"a", "b", "c", "", "d", "aa", "A", "a\x00"} {
			m := read(0, key)
			m.Epoch, m.Num = epoch, epoch
			p.do(t, "reads", m)
		}
	}
	m := read(0, "c")
	m.Epoch = -3
	wantAnswer(t, p.s, m, api.Msg{Kind: api.Value, Epoch: -3, Key: "c", Ver: v(2, 3), Has: true})
}

// wantLetBe asks that a message is answered with nothing, and turns nothing, the disk up or down.
func (p *pair) wantLetBe(t *testing.T, name string, m api.Msg) {
	t.Helper()
	wantAnswers(t, p.s, m, nil)
	p.m.wantIn(t, name, p.s)
	wantSame(t, name, p.d, p.r)
}

// full is a pair with something in each shard.
func full(t *testing.T, shards int) *pair {
	t.Helper()
	p := started(t, shards)
	for n := range shards {
		p.do(t, "ahead", fence(n, 2), flush(n, 2, v(1, 2), put("a", 2, 1, "x"), del("b", 2, 2)))
	}
	return p
}

// kinds are all of api's but those of the store, and some that are none.
func kinds() []int {
	l := []int{math.MinInt, -api.Fence, -api.Flush, -api.Read, -1, 0, 256 + api.Fence, 1<<32 + api.Flush, math.MaxInt}
	for kind := 1; kind <= 40; kind++ {
		if kind != api.Fence && kind != api.Flush && kind != api.Read {
			l = append(l, kind)
		}
	}
	return l
}

func TestP10_2OtherKinds(t *testing.T) {
	p := full(t, 2)
	for range 2 {
		for _, kind := range kinds() {
			for _, m := range []api.Msg{fence(1, 3), flush(0, 2, v(9, 9), put("a", 9, 10, "no")), read(0, "a")} {
				m.Kind = kind
				p.wantLetBe(t, fmt.Sprint("the kind ", kind), m)
				p.wantLetBe(t, fmt.Sprint("the kind ", kind), dressed(m))
			}
		}
		p.d.Arm(0)
		p.r.Arm(0)
	}
}

func TestP10_2OtherShards(t *testing.T) {
	for _, shards := range []int{1, 2, api.MaxShards} {
		p := full(t, shards)
		for range 2 {
			for _, n := range none(shards) {
				for _, m := range []api.Msg{fence(n, 3), fence(n, 0), flush(n, 2, v(9, 9), put("a", 9, 10, "no")), flush(n, 0, 0), flush(n, 3, 0), read(n, "a")} {
					p.wantLetBe(t, fmt.Sprint("the shard ", n), m)
					p.wantLetBe(t, fmt.Sprint("the shard ", n), dressed(m))
				}
			}
			p.d.Arm(0)
			p.r.Arm(0)
		}
	}
}

// notVersions has in either part what is below, between, beyond, and no number.
func notVersions() []api.Ver {
	var l []api.Ver
	for _, x := range []float64{-1, -math.SmallestNonzeroFloat64, 0.5, 1.25, api.MaxCount - 0.5, api.MaxCount + 1, 1e300, math.NaN(), math.Inf(1), math.Inf(-1)} {
		l = append(l, api.Ver(complex(x, 1)), api.Ver(complex(1, x)), api.Ver(complex(x, x)))
	}
	return l
}

// TestP10_2NotVersions: a message with something for a version that is none isn't for the store, at whichever place that stands.
func TestP10_2NotVersions(t *testing.T) {
	p := full(t, 1)
	for range 2 {
		for _, bad := range notVersions() {
			for _, m := range []api.Msg{fence(0, 3), fence(0, 1), flush(0, 2, 0), flush(0, 1, 0), read(0, "a"), read(0, "none")} {
				x := m
				x.Ver = bad
				p.wantLetBe(t, fmt.Sprint("Ver ", bad), x)
				x = m
				x.Floor = bad
				p.wantLetBe(t, fmt.Sprint("Floor ", bad), x)
				for at := range 3 {
					x = m
					x.Entries = []api.Entry{put("a", 3, 1, "x"), put("b", 3, 2, "x"), put("c", 3, 3, "x")}
					x.Entries[at].Ver = bad
					p.wantLetBe(t, fmt.Sprint("entry ", at, " of ", bad), x)
					x.Entries[at].Write = false
					p.wantLetBe(t, fmt.Sprint("entry ", at, " of ", bad, ", no Write"), x)
				}
			}
		}
		p.d.Arm(0)
		p.r.Arm(0)
	}
}

// TestP10_2Noughts: -0 is 0, so it is a version's part.
func TestP10_2Noughts(t *testing.T) {
	minus := math.Copysign(0, -1)
	p := started(t, 1)
	m := flush(0, 0, api.Ver(complex(minus, minus)), put("a", 0, 1, "x"), put("b", 1, 0, "y"), put("c", 0, 0, "z"))
	m.Ver = api.Ver(complex(minus, 0))
	m.Entries[0].Ver = api.Ver(complex(minus, 1))
	m.Entries[1].Ver = api.Ver(complex(1, minus))
	m.Entries[2].Ver = api.Ver(complex(minus, minus))
	p.do(t, "noughts", m, read(0, "a"), read(0, "b"), read(0, "c"))
	if l := p.s.Rows(0); !slices.Equal(l, []api.Row{has("a", 0, 1, "x"), has("b", 1, 0, "y")}) {
		t.Errorf("the rows are %s", told(l))
	}
}

// TestP10_2EdgesOfVersions: the greatest ones are versions, in a message's own places and in its entries.
func TestP10_2EdgesOfVersions(t *testing.T) {
	for _, x := range versions() {
		p := started(t, 1)
		e := put("a", 0, 0, "x")
		e.Ver = x
		m := flush(0, 0, 0, e)
		m.Ver = x
		r := read(0, "a")
		r.Ver, r.Floor, r.Entries = x, x, []api.Entry{e}
		f := fence(0, 1)
		f.Ver, f.Floor, f.Entries = x, x, []api.Entry{e}
		p.do(t, fmt.Sprint(x), m, r, f, r)
	}
}
