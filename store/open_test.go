package store_test

import (
	"fmt"
	"math"
	"slices"
	"strings"
	"testing"

	"lockgate/api"
	"lockgate/disk"
	"lockgate/store"
)

// P10.1: what a store is opened to.

func TestP10_1NewDisk(t *testing.T) {
	for shards := 1; shards <= api.MaxShards; shards++ {
		p := started(t, shards)
		p.check(t, "a new disk")
		if p.d.Loose() != 0 {
			t.Errorf("%d changes are loose", p.d.Loose())
		}
		p.do(t, "the last shard", fence(shards-1, 1), fence(shards, 1))
	}
}

// TestP10_1Shards: the number of shards is looked at ahead of the disk, and nothing is done then.
func TestP10_1Shards(t *testing.T) {
	down := diskOf(t, frames(flush(0, 0, 0)))
	down.Arm(0)
	for i, d := range []*disk.Disk{disk.New(), diskOf(t, framed("")), diskOf(t, "no frame"), diskOf(t, framed("no picture")), down, nil} {
		for _, shards := range []int{math.MinInt, -api.MaxShards, -1, 0, api.MaxShards + 1, 100, 1<<32 + 1, math.MaxInt} {
			name := fmt.Sprint("disk ", i, ", ", shards, " shards")
			r := d.Clone()
			s, e := store.Open(d, shards)
			if s != nil || e != api.ErrArg {
				t.Errorf("%s: a store: %v, the error %d", name, s != nil, e)
			}
			if d != nil {
				wantSame(t, name, d, r)
			}
		}
	}
}

// wantFault asks for an error, no store, and a disk as a log's Open leaves it, which tells that much of the text.
func wantFault(t *testing.T, name, text, stays string, shards int) {
	t.Helper()
	d := diskOf(t, text)
	r := d.Clone()
	if e := byHand(r, turned(1, stays)...); e != api.OK {
		t.Fatalf("%s: the error %d", name, e)
	}
	for range 2 {
		s, e := store.Open(d, shards)
		if s != nil || e != api.ErrBytes {
			t.Fatalf("%s: a store: %v, the error %d", name, s != nil, e)
		}
		wantSame(t, name, d, r)
		byHand(r, turned(0, stays)...)
	}
}

// wantLoaded asks what a disk with this text opens to, and that the disk is then as a log's Open leaves it.
func wantLoaded(t *testing.T, name, text string, m *model) *pair {
	t.Helper()
	m = m.clone()
	m.text = text
	p := opened(t, m, diskOf(t, text))
	p.check(t, name)
	return p
}

// pictured is a model of what the messages of a picture say: of no rows, and with no floor.
func pictured(l ...api.Msg) *model {
	m := newModel(len(l))
	for n, x := range l {
		m.parts[n].fence, m.parts[n].floor = x.Epoch, x.Floor
		for _, e := range x.Entries {
			m.parts[n].apply(e)
		}
	}
	return m
}

// threeShards is a picture's messages.
func threeShards() []api.Msg {
	return []api.Msg{
		flush(0, 3, v(1, 2), put("a", 1, 3, "x"), del("b", 2, 1)),
		flush(1, 0, 0),
		flush(2, 7, v(2, 2), put("c", 2, 3, "z")),
	}
}

// TestP10_1LogIsNone: what a log's Open answers.
func TestP10_1LogIsNone(t *testing.T) {
	for _, text := range []string{"x", "no frame at all", framed("picture")[:18], framed("picture")[1:], strings.Repeat("\xff", 100)} {
		d := diskOf(t, text)
		r := d.Clone()
		if s, e := store.Open(d, 1); s != nil || e != api.ErrBytes {
			t.Errorf("%s: a store: %v, the error %d", brief(text), s != nil, e)
		}
		wantSame(t, brief(text), d, r)
	}
	if s, e := store.Open(nil, 1); s != nil || e != api.ErrDown {
		t.Errorf("no disk: a store: %v, the error %d", s != nil, e)
	}
}

// TestP10_1DiskGoesDown at each change of an Open; the error of the disk is told ahead of what is wrong with what stands there.
func TestP10_1DiskGoesDown(t *testing.T) {
	texts := []string{framed(""), framed(frames(flush(0, 1, 0))), framed("") + frames(fence(0, 1)), framed("no picture"), framed("", "no record")}
	for i, text := range texts {
		for n := range 7 {
			name := fmt.Sprint("text ", i, ", armed with ", n)
			d := diskOf(t, text)
			d.Arm(n)
			r := d.Clone()
			s, e := store.Open(d, 1)
			byHand(r, turned(1, text)...)
			want := api.OK
			if n < 5 {
				want = api.ErrDown
			} else if i >= 3 {
				want = api.ErrBytes
			}
			if e != want || (s == nil) != (e != api.OK) {
				t.Errorf("%s: a store: %v, the error %d; asked for is %d", name, s != nil, e, want)
			}
			wantSame(t, name, d, r)
		}
	}
	d := disk.New()
	d.Arm(0)
	if s, e := store.Open(d, 1); s != nil || e != api.ErrDown {
		t.Errorf("a new disk that is down: a store: %v, the error %d", s != nil, e)
	}
	d = disk.New()
	d.Arm(1)
	if s, e := store.Open(d, 1); s == nil || e != api.OK || d.Down() {
		t.Errorf("a new disk that is armed: a store: %v, the error %d", s != nil, e)
	}
}

// badPictures are those that aren't as told, of three shards.
func badPictures() map[string]string {
	l := threeShards()
	one, two, three := frames(l[0]), frames(l[1]), frames(l[2])
	kind := func(kind int) string {
		m := l[1]
		m.Kind = kind
		return one + frames(m) + three
	}
	shard := func(n int) string {
		m := l[1]
		m.Shard = n
		return one + frames(m) + three
	}
	turned := []byte(one + two + three)
	turned[len(one)+20] ^= 1
	bad := map[string]string{
		"bytes":                     "x",
		"a nought":                  "\x00",
		"half a frame":              one[:len(one)/2],
		"the empty record's frame":  framed(""),
		"three empty records":       framed("", "", ""),
		"none, and no message":      framed("x"),
		"a text of a message":       written(l[0]),
		"no message behind":         one + two + framed("x"),
		"no message in between":     one + framed(written(l[1])[1:]) + three,
		"a message and more":        one + framed(written(l[1])+"\x00") + three,
		"a message cut off":         one + framed(written(l[1])[:len(written(l[1]))-1]) + three,
		"no message at first":       framed("x") + two + three,
		"one too few":               one + two,
		"the first one isn't there": two + three,
		"one alone":                 one,
		"one too many":              one + two + three + frames(flush(3, 0, 0)),
		"the last one twice":        one + two + three + three,
		"a byte behind":             one + two + three + "x",
		"a nought behind":           one + two + three + "\x00",
		"half a frame behind":       one + two + three + three[:len(three)-1],
		"the last one cut off":      one + two + three[:len(three)-1],
		"a sum that isn't right":    string(turned),
		"others' order":             two + one + three,
		"back to front":             three + two + one,
		"one twice":                 one + one + three,
		"a Fence":                   kind(api.Fence),
		"a Read":                    kind(api.Read),
		"a Flushed":                 kind(api.Flushed),
		"no Kind":                   kind(0),
		"a Kind below 0":            kind(-api.Flush),
		"a shard below 0":           shard(-1),
		"a shard of another place":  shard(0),
		"the next place's shard":    shard(2),
		"a shard that isn't there":  shard(3),
		"the greatest shard":        shard(math.MaxInt),
	}
	for n := range 3 {
		bad[fmt.Sprint("a frame ahead of ", n)] = strings.Join(slices.Insert([]string{one, two, three}, n, framed("")), "")
	}
	return bad
}

func TestP10_1BadPictures(t *testing.T) {
	for name, picture := range badPictures() {
		wantFault(t, name, framed(picture), framed(picture), 3)
		wantFault(t, name+", with a record", framed(picture, written(fence(0, 9))), framed(picture, written(fence(0, 9))), 3)
		wantFault(t, name+", with bytes behind", framed(picture)+"bytes", framed(picture), 3)
	}
	wantFault(t, "the empty record's frame, of one shard", framed(framed("")), framed(framed("")), 1)
}

// badRecords are those that aren't as told, of two shards.
func badRecords() map[string]string {
	kind := func(kind int) string {
		m := flush(1, 0, 0, put("a", 1, 1, "x"))
		m.Kind = kind
		return written(m)
	}
	good := written(fence(0, 1))
	bad := map[string]string{
		"nothing":                      "",
		"a byte":                       "x",
		"a nought":                     "\x00",
		"a message and more":           good + "\x00",
		"a message cut off":            good[:len(good)-1],
		"a message but its first byte": good[1:],
		"a message in a frame":         framed(good),
		"two messages":                 good + good,
	}
	for _, k := range kinds() {
		bad[fmt.Sprint("the Kind ", k)] = kind(k)
	}
	bad["a Read"] = kind(api.Read)
	for _, n := range none(2) {
		bad[fmt.Sprint("a Fence of ", n)] = written(fence(n, 1))
		bad[fmt.Sprint("a Flush of ", n)] = written(flush(n, 0, 0))
	}
	return bad
}

// TestP10_1BadRecords: alone, and ahead of others and behind them, and behind a picture.
func TestP10_1BadRecords(t *testing.T) {
	good := written(flush(1, 0, v(1, 1), put("a", 1, 2, "x")))
	picture := frames(flush(0, 1, 0), flush(1, 2, 0))
	for name, rec := range badRecords() {
		for i, text := range []string{
			framed("", rec),
			framed("", rec, good),
			framed("", good, rec),
			framed("", good, rec, good),
			framed(picture, rec),
			framed(picture, good, rec),
		} {
			wantFault(t, fmt.Sprint(name, ", text ", i), text, text, 2)
		}
	}
}

// TestP10_1OtherShards: a picture is of just so many; records are of as many as there must be.
func TestP10_1OtherShards(t *testing.T) {
	for shards := 1; shards <= api.MaxShards; shards++ {
		var l []api.Msg
		for n := range shards {
			l = append(l, flush(n, n, v(n, 1), put("a", n, 2, "x")))
		}
		picture := framed(frames(l...))
		recs := framed("", written(fence(shards-1, 1)))
		for opens := 1; opens <= api.MaxShards; opens++ {
			name := fmt.Sprint(shards, " shards, opened with ", opens)
			if opens == shards {
				wantLoaded(t, name, picture, pictured(l...))
			} else {
				wantFault(t, name, picture, picture, opens)
			}
			if opens < shards {
				wantFault(t, name+", a record", recs, recs, opens)
			} else {
				m := newModel(opens)
				m.parts[shards-1].fence = 1
				wantLoaded(t, name+", a record", recs, m)
			}
		}
	}
}

// TestP10_1HandledWithOtherShards is of what stores leave that had other numbers of shards.
func TestP10_1HandledWithOtherShards(t *testing.T) {
	p := full(t, 3)
	for _, shards := range []int{1, 2} {
		if s, e := store.Open(p.d.Clone(), shards); s != nil || e != api.ErrBytes {
			t.Errorf("opened with %d: a store: %v, the error %d", shards, s != nil, e)
		}
	}
	m := p.m.clone()
	m.parts = append(m.parts, part{}, part{})
	m.wantOpens(t, "opened with 5", p.d.Clone())
	p.do(t, "a picture", bigFlush(0, 2, longLog, "k", 3))
	for _, shards := range []int{1, 2, 4, 5} {
		if s, e := store.Open(p.d.Clone(), shards); s != nil || e != api.ErrBytes {
			t.Errorf("a picture, opened with %d: a store: %v, the error %d", shards, s != nil, e)
		}
	}
}

// TestP10_1EmptyPicture is as at first; what a first change left that was torn, too.
func TestP10_1EmptyPicture(t *testing.T) {
	empty := framed("")
	for n := range len(empty) + 1 {
		name := fmt.Sprint(n, " bytes of an empty picture's frame")
		m := newModel(2)
		if n > 0 {
			m.text = empty
		}
		p := opened(t, m, diskOf(t, empty[:n]))
		p.check(t, name)
		p.do(t, name, flush(1, 0, 0, put("a", 1, 1, "x")))
	}
	l := []api.Msg{fence(1, 3), flush(0, 9, v(0, 1), put("a", 0, 2, "x"), put("b", 0, 1, "no")), fence(1, 2), flush(1, 0, 0, del("c", 1, 1))}
	m := newModel(2)
	for _, x := range l {
		m.parts[x.Shard].do(x)
	}
	p := wantLoaded(t, "an empty picture, with records", empty+frames(l...), m)
	p.do(t, "an empty picture, with records", read(0, "a"), read(0, "b"), fence(1, 3), flush(1, 3, v(1, 1)))
}

// TestP10_1RecordsAreDoneInOrder, whatever their epochs: what is in the log was taken.
func TestP10_1RecordsAreDoneInOrder(t *testing.T) {
	l := []api.Msg{
		flush(0, 5, 0, put("a", 1, 1, "x"), put("b", 1, 2, "y"), del("c", 1, 3)),
		flush(0, 2, v(1, 2), put("a", 1, 2, "no"), put("b", 1, 3, "z")),
		fence(0, 4),
		flush(0, -1, v(1, 1), put("d", 1, 2, "no"), put("d", 1, 3, "yes")),
		fence(0, 2),
		flush(0, 3, v(1, 3), put("c", 1, 3, "no"), put("c", 1, 4, "yes"), put("d", 2, 0, "later")),
	}
	rows(l, 4, func(row []api.Msg) {
		if len(row) == 0 {
			return
		}
		m := newModel(1)
		text := framed("")
		for _, x := range row {
			m.parts[0].do(x)
			text += frames(x)
		}
		wantLoaded(t, all(row), text, m)
	})
}

// TestP10_1Pictures: fences, floors and rows are those of the messages, and records are done behind.
func TestP10_1Pictures(t *testing.T) {
	l := threeShards()
	p := wantLoaded(t, "a picture", framed(frames(l...)), pictured(l...))
	if !slices.Equal(p.s.Rows(0), []api.Row{has("a", 1, 3, "x"), gone("b", 2, 1)}) || p.s.Fence(0) != 3 || p.s.Floor(0) != v(1, 2) || p.s.Fence(2) != 7 {
		t.Errorf("%d, %v, %s", p.s.Fence(0), p.s.Floor(0), told(p.s.Rows(0)))
	}
	p.do(t, "a picture", flush(0, 3, v(2, 1), put("d", 2, 1, "no"), put("e", 2, 2, "yes")), fence(2, 6), fence(1, 1))
	m := pictured(l...)
	rec := flush(0, 0, v(2, 1), put("d", 2, 1, "no"), put("e", 2, 2, "yes"))
	m.parts[0].do(rec)
	m.parts[2].do(fence(2, 8))
	wantLoaded(t, "a picture, with records", framed(frames(l...), written(rec), written(fence(2, 8)), written(fence(0, 1))), m)
}

// TestP10_1PictureOfFenceAndFloor: a shard's fence and floor are the picture's, of all sorts.
func TestP10_1PictureOfFenceAndFloor(t *testing.T) {
	for _, epoch := range epochs() {
		for _, floor := range versions() {
			wantLoaded(t, "a picture", framed(frames(flush(0, epoch, floor), flush(1, 0, 0))), pictured(flush(0, epoch, floor), flush(1, 0, 0)))
		}
	}
}

// TestP10_1PictureIsLookedAtForNoMore: what is in its messages beside is let be.
func TestP10_1PictureIsLookedAtForNoMore(t *testing.T) {
	var l []api.Msg
	for _, m := range threeShards() {
		l = append(l, dressed(m))
	}
	p := wantLoaded(t, "a dressed picture", framed(frames(l...)), pictured(l...))
	p.do(t, "a dressed picture", bigFlush(0, 3, longLog, "k", 9))
	wantFront(t, "a dressed picture, saved anew", p.d, framed(p.m.picture()))
}

// pictureEntries are those that a store writes, and others: of the version 0, at the floor and ahead of it, with what a row has no place for.
func pictureEntries() []api.Entry {
	none := put("a", 9, 9, "none")
	none.Write = false
	rest := del("a", 2, 2)
	rest.Val, rest.Sess, rest.Res = "rest", 3, "res"
	return []api.Entry{
		put("a", 0, 0, "zero"),
		del("b", 0, 0),
		put("a", 1, 1, "floor"),
		put("b", 1, 1, "floor"),
		put("a", 0, 5, "ahead"),
		del("a", 1, 0),
		put("a", 1, 1, "same"),
		put("b", 3, 0, "behind"),
		none,
		rest,
	}
}

// TestP10_1EntriesOfAPicture: the floor doesn't hold for them, they needn't be in order, and what was deleted stays until the next Flush.
func TestP10_1EntriesOfAPicture(t *testing.T) {
	rows(pictureEntries(), 3, func(row []api.Entry) {
		for _, floor := range []api.Ver{0, v(1, 1), v(9, 9)} {
			l := []api.Msg{flush(0, 0, floor, row...), flush(1, 0, 0)}
			p := wantLoaded(t, "entries", framed(frames(l...)), pictured(l...))
			if len(row) < 2 {
				p.do(t, "entries", read(0, "a"), read(0, "b"), fence(0, 1), flush(0, 1, 0), read(0, "a"), read(0, "b"))
			}
		}
	})
	l := flush(0, 0, v(9, 9), put("c", 0, 0, "c"), put("a", 1, 2, "a"), put("b", 1, 1, "old"), del("d", 0, 0), put("b", 1, 2, "new"), put("b", 1, 2, "same"))
	p := wantLoaded(t, "written out", framed(frames(l)), pictured(l))
	want := []api.Row{has("a", 1, 2, "a"), has("b", 1, 2, "new"), has("c", 0, 0, "c"), gone("d", 0, 0)}
	if !slices.Equal(p.s.Rows(0), want) {
		t.Errorf("%s; asked for is %s", told(p.s.Rows(0)), told(want))
	}
	p.do(t, "written out", read(0, "c"), read(0, "d"), fence(0, 1))
	if !slices.Equal(p.s.Rows(0), want) {
		t.Errorf("behind a Fence: %s; asked for is %s", told(p.s.Rows(0)), told(want))
	}
	p.do(t, "written out", flush(0, 1, 0))
	if !slices.Equal(p.s.Rows(0), want[:3]) {
		t.Errorf("behind a Flush: %s; asked for is %s", told(p.s.Rows(0)), told(want[:3]))
	}
}

// TestP10_1OtherAreaInFront: what stands in front is told, whichever area that is, and whatever stands in the other one.
func TestP10_1OtherAreaInFront(t *testing.T) {
	l := threeShards()
	for first := range 2 {
		d := disk.New()
		m := pictured(l...)
		m.front, m.text = first, framed(frames(l...))
		if e := byHand(d, add(1-first, "no frame"), add(first, m.text+"half"), front(first)); e != api.OK {
			t.Fatalf("the error %d", e)
		}
		p := opened(t, m, d)
		p.check(t, fmt.Sprint(first, " in front"))
		p.do(t, fmt.Sprint(first, " in front"), fence(1, 1), bigFlush(2, 7, longLog, "k", 8))
	}
}

// TestP10_1AskedAgain: Fence, Floor and Rows turn nothing.
func TestP10_1AskedAgain(t *testing.T) {
	p := full(t, 3)
	p.d.Arm(1)
	p.r.Arm(1)
	for range 3 {
		p.m.wantIn(t, "asked again", p.s)
		wantSame(t, "asked again", p.d, p.r)
	}
}
