package store_test

import (
	"fmt"
	"strings"
	"testing"

	"lockgate/api"
	"lockgate/disk"
	"lockgate/store"
)

// P10.2: what is on the disk, and what is answered when it can't be.

// TestP10_2RecordsWrittenOut has the front area's bytes by hand.
func TestP10_2RecordsWrittenOut(t *testing.T) {
	p := started(t, 2)
	wantFront(t, "a new disk", p.d, "")
	m := fence(1, 3)
	m.From, m.SBoot = 4, 2
	p.do(t, "written out", m)
	// Kind 19, From 4, SBoot 2, Shard 1, Epoch 3; behind five numbers more, two truths and two texts there are two versions, an operation, three lists, and an image.
	first := "\x26\x08\x00\x00\x04\x02\x06\x00\x00\x00\x00\x00" + strings.Repeat("\x00", 4+4+5+3+7)
	wantFront(t, "a Fence", p.d, framed("", first))
	p.do(t, "written out", flush(1, 3, v(1, 2), put("k", 3, 4, "v")))
	second := "\x1e\x00\x00\x00\x00\x02\x06\x00\x00\x00\x00\x00" + strings.Repeat("\x00", 4) + "\x00\x00\x02\x04" + strings.Repeat("\x00", 5) +
		"\x02" + "\x06\x08\x04\x02k\x02v\x01\x00\x06\x08\x0a\x02r\x01" + strings.Repeat("\x00", 2+7)
	wantFront(t, "a Flush", p.d, framed("", first, second))
}

// TestP10_2WhatAddsNothing leaves the disk as it is, to the last change.
func TestP10_2WhatAddsNothing(t *testing.T) {
	for _, start := range []func(*testing.T) *pair{
		func(t *testing.T) *pair { return started(t, 2) },
		func(t *testing.T) *pair { return full(t, 2) },
	} {
		p := start(t)
		ahead := p.d.Clone()
		at := p.s.Fence(1)
		for _, m := range []api.Msg{fence(1, at), fence(1, at-1), flush(1, at-1, v(9, 9), put("a", 9, 10, "no")), flush(1, at+1, v(9, 9), put("a", 9, 10, "no")), read(1, "a"), read(1, "none"), {Kind: api.Beat, Shard: 1}, fence(2, 9)} {
			p.do(t, "adds nothing", m, dressed(m))
			wantSame(t, one(m), p.d, ahead)
		}
	}
}

// bigFlush is a Flush whose record has just so many bytes: a key's value makes up for the rest.
func bigFlush(shard, epoch, bytes int, key string, num int) api.Msg {
	m := flush(shard, epoch, 0, put(key, epoch, num, ""))
	val := pattern(bytes)
	for at := len(written(m)); len(written(m)) != bytes; at++ {
		m.Entries[0].Val = val[at:]
	}
	return m
}

// head is how many bytes of a frame stand ahead of its record.
const head = 12

// TestP10_2LogsLength: a log of just so many bytes stays as it is; of one more it ends as a picture.
func TestP10_2LogsLength(t *testing.T) {
	for _, size := range []int{longLog - 2, longLog - 1, longLog, longLog + 1, longLog + 2} {
		name := fmt.Sprint("a log of ", size, " bytes")
		p := started(t, 1)
		m := bigFlush(0, 0, size-2*head, "k", 1)
		p.do(t, name, m)
		if size <= longLog {
			wantFront(t, name, p.d, framed("", written(m)))
		} else {
			wantFront(t, name, p.d, framed(frames(flush(0, 0, 0, api.Entry{Ver: v(0, 1), Key: "k", Val: m.Entries[0].Val, Write: true}))))
		}
		p.do(t, name+", one more", flush(0, 0, 0, del("k", 0, 2)))
		if size <= longLog {
			wantFront(t, name+", one more", p.d, framed(frames(flush(0, 0, 0, api.Entry{Ver: v(0, 2), Key: "k", Write: true, Del: true}))))
		}
	}
}

// TestP10_2EachKindMayEndALog: a Fence does too; what adds nothing doesn't, though the log is as long as it may be, or longer.
func TestP10_2EachKindMayEndALog(t *testing.T) {
	size := head + len(written(fence(1, 1)))
	for _, room := range []int{0, size - 1, size, size + 1} {
		name := fmt.Sprint("room for ", room, " bytes")
		p := started(t, 2)
		p.do(t, name, bigFlush(0, 0, longLog-room-2*head, "k", 1))
		long := p.m.text
		p.do(t, name, read(0, "k"), fence(0, 0), flush(0, 1, 0), flush(0, -1, 0), read(1, "k"), fence(2, 1))
		wantFront(t, name, p.d, long)
		p.do(t, name, fence(1, 1))
		if room >= size {
			wantFront(t, name, p.d, long+frames(fence(1, 1)))
		} else {
			wantFront(t, name, p.d, framed(p.m.picture()))
		}
	}
}

// TestP10_2PictureWrittenOut: shard by shard, with what was deleted and isn't collected yet; a shard with nothing has its message too.
func TestP10_2PictureWrittenOut(t *testing.T) {
	p := started(t, 4)
	big := bigFlush(1, 0, longLog, "big", 7)
	for _, m := range []api.Msg{
		fence(3, 5),
		flush(1, 0, v(0, 2), del("gone", 0, 4), put("b", 0, 5, "x"), put("b", 0, 6, "y"), del("collected", 0, 1)),
		flush(2, 0, v(2, 1)),
		flush(2, 0, 0, put("", 2, 2, ""), del("\xff", 3, 3)),
		dressed(flush(0, 0, 0, put("a", 0, 1, "dressed"))),
		big,
	} {
		p.do(t, "ahead", m)
	}
	write := func(key string, ver api.Ver, val string) api.Entry {
		return api.Entry{Ver: ver, Key: key, Val: val, Write: true}
	}
	gone := func(key string, ver api.Ver) api.Entry {
		return api.Entry{Ver: ver, Key: key, Write: true, Del: true}
	}
	want := frames(
		flush(0, 0, 0, write("a", v(0, 1), "dressed")),
		flush(1, 0, v(0, 2), write("b", v(0, 6), "y"), write("big", v(0, 7), big.Entries[0].Val), gone("gone", v(0, 4))),
		flush(2, 0, v(2, 1), write("", v(2, 2), ""), gone("\xff", v(3, 3))),
		flush(3, 5, 0),
	)
	wantFront(t, "the picture", p.d, framed(want))
	p.reopen(t, "the picture")
	p.check(t, "the picture, opened")
	wantFront(t, "the picture, opened", p.d, framed(want))
	p.do(t, "behind it", fence(0, 1))
}

// TestP10_2LongPicture: a picture that is long itself is saved anew with each message that is added, and with no other one.
func TestP10_2LongPicture(t *testing.T) {
	p := started(t, 2)
	p.do(t, "long", bigFlush(0, 0, longLog, "k", 1), bigFlush(1, 0, longLog/2, "l", 1))
	for i := range 6 {
		first, _ := p.d.First()
		p.do(t, "long, added", flush(i%2, 0, 0, put("m", 1, i, fmt.Sprint(i))))
		wantFront(t, "long, added", p.d, framed(p.m.picture()))
		second, _ := p.d.First()
		p.do(t, "long, read", read(0, "m"), flush(0, 7, 0), fence(1, 0))
		if third, _ := p.d.First(); first == second || second != third {
			t.Fatalf("in front are %d, %d, %d", first, second, third)
		}
	}
	p.reopen(t, "long")
	first, _ := p.d.First()
	p.do(t, "long, opened", read(0, "m"), fence(0, 1))
	if second, _ := p.d.First(); first == second {
		t.Error("no picture was saved behind the Open")
	}
}

// TestP10_2LongLogOpened: an Open saves nothing, nor does a message that adds nothing; the next one that adds does.
func TestP10_2LongLogOpened(t *testing.T) {
	m := newModel(2)
	m.text = framed("")
	for i := range 40 {
		x := bigFlush(i%2, 0, 1000, fmt.Sprint("k", i%7), i)
		m.text += frames(x)
		m.parts[i%2].do(x)
	}
	p := opened(t, m, diskOf(t, m.text))
	p.do(t, "a long log", read(0, "k1"), fence(0, 0), flush(1, 1, 0), flush(1, -1, 0))
	wantFront(t, "a long log", p.d, m.text)
	p.do(t, "a long log, added to", fence(0, 1))
	wantFront(t, "a long log, added to", p.d, framed(p.m.picture()))
}

// cuts is messages of which some add, one ends a log, and some add nothing.
func cuts() []api.Msg {
	return []api.Msg{
		fence(0, 1),
		read(0, "a"),
		flush(0, 1, v(0, 1), put("a", 1, 1, "x"), del("b", 1, 2)),
		flush(0, 0, v(9, 9), put("a", 9, 10, "no")),
		bigFlush(0, 1, 9000, "c", 3),
		fence(0, 1),
		bigFlush(0, 1, 9000, "d", 4),
		flush(0, 1, v(1, 2), put("a", 1, 5, "y")),
		bigFlush(1, 0, 17000, "e", 1),
		fence(1, 2),
		{Kind: api.Beat},
		read(1, "e"),
	}
}

// TestP10_2EachFault has the disk go down at each change of a row of messages; all that come behind it are still answered as they are to be.
func TestP10_2EachFault(t *testing.T) {
	for n := range 60 {
		p := started(t, 2)
		p.d.Arm(n)
		p.r.Arm(n)
		for i, x := range cuts() {
			name := fmt.Sprint("armed with ", n, ", message ", i)
			p.ask(t, name, x)
			p.m.wantIn(t, name, p.s)
			wantSame(t, name, p.d, p.r)
		}
	}
}

// TestP10_2FaultsWrittenOut is of a message that is added, and ends the log, on a disk that does so many changes more.
func TestP10_2FaultsWrittenOut(t *testing.T) {
	for n := range 8 {
		name := fmt.Sprint("armed with ", n)
		p := started(t, 1)
		p.do(t, name, bigFlush(0, 0, 9000, "a", 1))
		p.d.Arm(n)
		l, e := p.s.Handle(bigFlush(0, 0, 9000, "b", 2))
		switch rows := len(p.s.Rows(0)); {
		case n < 2:
			if e != api.ErrDown || len(l) != 0 || rows != 1 {
				t.Errorf("%s: %s, %d, %d rows", name, all(l), e, rows)
			}
		case n < 7:
			if e != api.ErrDown || len(l) != 1 || l[0].Kind != api.Flushed || l[0].Code != 0 || rows != 2 {
				t.Errorf("%s: %s, %d, %d rows", name, all(l), e, rows)
			}
		default:
			if e != api.OK || len(l) != 1 || rows != 2 {
				t.Errorf("%s: %s, %d, %d rows", name, all(l), e, rows)
			}
		}
	}
}

// TestP10_2DownDisk: what adds nothing is answered as ever, what adds by the error, again and again.
func TestP10_2DownDisk(t *testing.T) {
	p := full(t, 2)
	p.d.Arm(0)
	p.r.Arm(0)
	for range 3 {
		for _, m := range []api.Msg{read(0, "a"), read(1, "b"), read(0, "none"), fence(0, 2), fence(0, 1), flush(0, 1, 0), flush(1, 3, v(9, 9))} {
			p.do(t, "down", m, dressed(m))
		}
		for _, m := range []api.Msg{fence(0, 3), flush(0, 2, v(9, 9)), flush(1, 2, 0, put("a", 3, 1, "x")), flush(1, 2, 0)} {
			if e := p.ask(t, "down", m); e != api.ErrDown {
				t.Fatalf("%s: the error %d", one(m), e)
			}
			p.check(t, "down, "+one(m))
		}
	}
}

// greatFlush has nine million bytes and some, of rows that stay.
func greatFlush(shard, from int) api.Msg {
	val := pattern(api.MaxText)
	m := flush(shard, 0, 0)
	for i := range 140 {
		m.Entries = append(m.Entries, put(fmt.Sprint("key ", from+i), 1, from+i, val))
	}
	return m
}

// TestP10_3PictureBeyondAFrame: shards whose picture no frame has room for are there behind a crash all the same.
func TestP10_3PictureBeyondAFrame(t *testing.T) {
	d := disk.New()
	s, e := store.Open(d, 2)
	if e != api.OK {
		t.Fatalf("Open answers the error %d", e)
	}
	m := newModel(2)
	for i, x := range []api.Msg{greatFlush(0, 0), greatFlush(1, 1000), flush(0, 0, 0, put("a", 1, 1, "x")), fence(1, 2), greatFlush(0, 2000)} {
		want, _ := m.answers(x)
		wantAnswers(t, s, x, want)
		m.parts[x.Shard].do(x)
		d.Crash(0, 0)
		s = m.wantOpens(t, fmt.Sprint("message ", i), d)
	}
}

// manyRows is a Flush of so many rows that stay.
func manyRows(shard, from, n int) api.Msg {
	x := flush(shard, 0, 0)
	for i := range n {
		x.Entries = append(x.Entries, put(fmt.Sprint("key ", from+i), 1, from+i, "value"))
	}
	return x
}

// TestP10_2ManyRowsInAll: each shard has as many as it may, and the picture is saved.
func TestP10_2ManyRowsInAll(t *testing.T) {
	p := started(t, 3)
	for n := range 3 {
		p.do(t, "many rows", manyRows(n, 0, api.MaxList))
		wantFront(t, "many rows", p.d, framed(p.m.picture()))
	}
}

// TestP3MoreRowsThanAList: of shards with so many rows chapter 10 promises nothing, but the store's disk is to open to what the store has at every step.
func TestP3MoreRowsThanAList(t *testing.T) {
	for n := range 3 {
		d := disk.New()
		s, e := store.Open(d, 3)
		if e != api.OK {
			t.Fatalf("Open answers the error %d", e)
		}
		m := newModel(3)
		for i, rows := range []int{api.MaxList, 1, 1, 0, api.MaxList / 2, 1} {
			x := manyRows(n, i*api.MaxList, rows)
			s.Handle(x)
			m.parts[n].do(x)
			m.wantOpens(t, fmt.Sprint("shard ", n, ", flush ", i), d.Clone())
		}
	}
}
