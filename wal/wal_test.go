package wal_test

import (
	"fmt"
	"testing"

	"lockgate/api"
	"lockgate/disk"
	"lockgate/wal"
)

// P8.2: Add, Flush, Save, Size.

func TestP8_2Example(t *testing.T) {
	d := disk.New()
	l := wantOpens(t, "a new disk", d, newModel(0))
	for i, e := range []api.Errno{l.Add([]byte("a")), l.Flush(), l.Add([]byte("b"))} {
		if e != api.OK {
			t.Fatalf("call %d answers the error %d", i, e)
		}
	}
	c := d.Clone()
	wantOpens(t, "no crash", c, &model{recs: []string{"a", "b"}})
	d.Crash(0, 0)
	wantOpens(t, "a crash that keeps nothing", d, &model{recs: []string{"a"}})
}

// TestP8_2WrittenOut has what stands, what is loose, and Size, behind each call of a row.
func TestP8_2WrittenOut(t *testing.T) {
	d := disk.New()
	l := wantOpens(t, "a new disk", d, newModel(0))
	for i, x := range []struct {
		call  func() api.Errno
		loose int
		want  stand
	}{
		{l.Flush, 0, stand{}},
		{func() api.Errno { return l.Add([]byte("a")) }, 1, stand{[2]string{emptyFrame + aFrame, ""}, 0}},
		{func() api.Errno { return l.Add(nil) }, 2, stand{[2]string{emptyFrame + aFrame + emptyFrame, ""}, 0}},
		{l.Flush, 0, stand{[2]string{emptyFrame + aFrame + emptyFrame, ""}, 0}},
		{func() api.Errno { return l.Add([]byte("ab")) }, 1, stand{[2]string{emptyFrame + aFrame + emptyFrame + abFrame, ""}, 0}},
		{func() api.Errno { return l.Save([]byte("hello")) }, 0, stand{[2]string{emptyFrame + aFrame + emptyFrame + abFrame, helloFrame}, 1}},
		{func() api.Errno { return l.Add([]byte("a")) }, 1, stand{[2]string{emptyFrame + aFrame + emptyFrame + abFrame, helloFrame + aFrame}, 1}},
		{func() api.Errno { return l.Save(nil) }, 0, stand{[2]string{emptyFrame, helloFrame + aFrame}, 0}},
		{func() api.Errno { return l.Add([]byte("ab")) }, 1, stand{[2]string{emptyFrame + abFrame, helloFrame + aFrame}, 0}},
		{l.Flush, 0, stand{[2]string{emptyFrame + abFrame, helloFrame + aFrame}, 0}},
		{func() api.Errno { return l.Save([]byte("a")) }, 0, stand{[2]string{emptyFrame + abFrame, aFrame}, 1}},
		{func() api.Errno { return l.Save([]byte("ab")) }, 0, stand{[2]string{abFrame, aFrame}, 0}},
	} {
		if e := x.call(); e != api.OK {
			t.Fatalf("call %d answers the error %d", i, e)
		}
		wantStands(t, fmt.Sprint("call ", i), d, x.loose, x.want)
		if n := l.Size(); n != len(x.want.areas[x.want.front]) {
			t.Fatalf("call %d: Size tells %d", i, n)
		}
	}
}

// TestP8_2AllRows looks behind each call at the disk, at Size, and at what a fresh Open tells.
func TestP8_2AllRows(t *testing.T) {
	rows(calls(), 4, func(row []call) {
		p := started(t)
		p.doAll(t, row)
		wantSame(t, fmt.Sprint(row), p.d, p.r)
		p.wantHeld(t, fmt.Sprint(row))
	})
}

func TestP8_2RowsOfEachBeginning(t *testing.T) {
	for _, x := range beginnings() {
		rows(calls(), 3, func(row []call) {
			p := opened(t, x.m, x.row...)
			p.doAll(t, row)
			wantSame(t, fmt.Sprint(x.name, row), p.d, p.r)
			p.wantHeld(t, fmt.Sprint(x.name, row))
		})
	}
}

func TestP8_2LongRows(t *testing.T) {
	rows(fewCalls(), 6, func(row []call) {
		p := started(t)
		p.doAll(t, row)
		wantSame(t, fmt.Sprint(row), p.d, p.r)
		p.wantHeld(t, fmt.Sprint(row))
	})
}

// TestP8_2EmptyArea: an Add to it is one change, a Flush of it a sync, and a Save to it as any.
func TestP8_2EmptyArea(t *testing.T) {
	for area := range 2 {
		for _, rec := range []string{"", "a", "hello"} {
			p := opened(t, newModel(area), front(area), sync)
			p.do(t, call{"add", rec})
			want := stand{front: area}
			want.areas[area] = emptyFrame + framed(rec)
			wantStands(t, "an Add", p.d, 1, want)
			p.d.Crash(0, head-1)
			want.areas[area] = emptyFrame[:head-1]
			wantStands(t, "an Add that is torn", p.d, 0, want)

			p = opened(t, newModel(area), front(area), sync)
			p.do(t, call{"save", rec})
			want = stand{front: 1 - area}
			want.areas[1-area] = framed(rec)
			wantStands(t, "a Save", p.d, 0, want)
		}
		p := opened(t, newModel(area), front(area))
		for range 3 {
			p.do(t, call{"flush", ""})
			wantStands(t, "a Flush", p.d, 0, stand{front: area})
		}
		p.d.Crash(0, 0)
		wantStands(t, "a Flush, and a crash", p.d, 0, stand{front: area})
		p.d.Arm(1)
		if e := p.l.Flush(); e != api.OK || !p.d.Down() {
			t.Errorf("a Flush is to be one change: it answers %d, down: %v", e, p.d.Down())
		}
	}
}

// TestP8_2EmptyPictureAndRecord: they are frames as any, and the log isn't empty by them.
func TestP8_2EmptyPictureAndRecord(t *testing.T) {
	for _, nothing := range [][]byte{nil, {}, make([]byte, 0, 9), []byte("abc")[3:]} {
		d := disk.New()
		l := wantOpens(t, "a new disk", d, newModel(0))
		for i, e := range []api.Errno{l.Save(nothing), l.Add(nothing), l.Add(nothing)} {
			if e != api.OK {
				t.Fatalf("call %d answers the error %d", i, e)
			}
		}
		wantStands(t, "empty ones", d, 2, stand{[2]string{"", emptyFrame + emptyFrame + emptyFrame}, 1})
		if n := l.Size(); n != 3*head {
			t.Errorf("Size tells %d", n)
		}
		wantOpens(t, "empty ones", d, &model{front: 1, recs: []string{"", ""}})
	}
}

// TestP8_2ArmedAtEachChange: a row is done with the power going at each change; what is answered then, and what stands.
func TestP8_2ArmedAtEachChange(t *testing.T) {
	for _, x := range beginnings() {
		rows([]call{{"add", ""}, {"add", "bcd"}, {"flush", ""}, {"save", ""}, {"save", "all"}, {"open", ""}}, 2, func(row []call) {
			for n := range 12 {
				p := opened(t, x.m, x.row...)
				p.d.Arm(n)
				p.r.Arm(n)
				name := fmt.Sprint(x.name, row, ", armed with ", n)
				if p.upTo(t, name, row) == len(row) {
					wantSame(t, name, p.d, p.r)
				}
			}
		})
	}
}

// upTo does calls until one answers an error, asks what it left, and tells which one it was.
func (p *pair) upTo(t *testing.T, name string, row []call) int {
	t.Helper()
	for i, c := range row {
		size := p.l.Size()
		got, want := p.on(t, c)
		if got != want {
			t.Fatalf("%s: %v answers the error %d, by hand it is %d", name, c, got, want)
		}
		if got == api.OK {
			p.m.do(c)
			size = len(p.m.stands())
		}
		if n := p.l.Size(); n != size {
			t.Fatalf("%s: %v: Size tells %d, not %d", name, c, n, size)
		}
		if got != api.OK {
			wantSame(t, name, p.d, p.r)
			p.wantDown(t, name)
			return i
		}
	}
	return len(row)
}

// wantDown asks of each call that it answers ErrDown, does nothing, and leaves Size.
func (p *pair) wantDown(t *testing.T, name string) {
	t.Helper()
	size := p.l.Size()
	for range 2 {
		_, _, _, e := wal.Open(p.d)
		for i, e := range []api.Errno{e, p.l.Add(nil), p.l.Add([]byte("a")), p.l.Flush(), p.l.Save(nil), p.l.Save([]byte("all"))} {
			if e != api.ErrDown {
				t.Fatalf("%s, down: call %d answers the error %d", name, i, e)
			}
		}
		if n := p.l.Size(); n != size {
			t.Fatalf("%s, down: Size tells %d, not %d", name, n, size)
		}
	}
	wantSame(t, name, p.d, p.r)
}

func TestP8_2Down(t *testing.T) {
	for _, x := range beginnings() {
		rows(calls(), 2, func(row []call) {
			p := opened(t, x.m, x.row...)
			p.doAll(t, row)
			p.d.Arm(0)
			p.r.Arm(0)
			p.wantDown(t, fmt.Sprint(x.name, row))
		})
	}
}

// TestP8_2SaveArmedWrittenOut has what stands in both areas behind each change of a Save.
func TestP8_2SaveArmedWrittenOut(t *testing.T) {
	old, lone := helloFrame+aFrame, emptyFrame+abFrame
	for n, x := range []struct {
		loose       int
		all, synced stand
	}{
		{1, stand{[2]string{lone, old + abFrame}, 1}, stand{[2]string{lone, old}, 1}},
		{2, stand{[2]string{"", old + abFrame}, 1}, stand{[2]string{lone, old}, 1}},
		{3, stand{[2]string{aFrame, old + abFrame}, 1}, stand{[2]string{lone, old}, 1}},
		{0, stand{[2]string{aFrame, old + abFrame}, 1}, stand{[2]string{aFrame, old + abFrame}, 1}},
		{1, stand{[2]string{aFrame, old + abFrame}, 0}, stand{[2]string{aFrame, old + abFrame}, 1}},
		{0, stand{[2]string{aFrame, old + abFrame}, 0}, stand{[2]string{aFrame, old + abFrame}, 0}},
	} {
		p := started(t)
		p.doAll(t, []call{{"add", "ab"}, {"save", "hello"}, {"add", "a"}, {"flush", ""}, {"add", "ab"}})
		p.d.Arm(n)
		e := p.l.Save([]byte("a"))
		if (e == api.ErrDown) != (n < 5) || (e == api.OK) != (n == 5) {
			t.Fatalf("armed with %d: Save answers the error %d", n, e)
		}
		size := len(old + abFrame)
		if n == 5 {
			size = len(aFrame)
		}
		if got := p.l.Size(); got != size {
			t.Fatalf("armed with %d: Size tells %d, not %d", n, got, size)
		}
		if p.d.Loose() != x.loose || !p.d.Down() {
			t.Fatalf("armed with %d: %d loose, down: %v", n, p.d.Loose(), p.d.Down())
		}
		c := p.d.Clone()
		c.Crash(9, 0)
		wantStands(t, fmt.Sprint(n, ", all kept"), c, 0, x.all)
		p.d.Crash(0, 0)
		wantStands(t, fmt.Sprint(n, ", none kept"), p.d, 0, x.synced)
	}
}

// TestP8_2EachByte: a record, or a picture, may be of any bytes, frames too.
func TestP8_2EachByte(t *testing.T) {
	texts := []string{emptyFrame, aFrame, emptyFrame[:5], helloFrame + aFrame, pattern(255), pattern(256), pattern(257), pattern(70000)}
	for i := range 256 {
		texts = append(texts, string([]byte{byte(i)}))
	}
	for _, text := range texts {
		for _, row := range [][]call{
			{{"add", text}},
			{{"save", text}},
			{{"save", text}, {"add", "a"}, {"add", text}},
			{{"add", text}, {"add", text}, {"open", ""}, {"add", text}},
		} {
			p := started(t)
			p.doAll(t, row)
			wantSame(t, fmt.Sprint(row), p.d, p.r)
			p.wantHeld(t, fmt.Sprint(row))
		}
	}
}

func TestP8_2GreatOnes(t *testing.T) {
	great := pattern(api.MaxFrame)
	p := started(t)
	p.doAll(t, []call{{"add", great}, {"add", "a"}})
	p.wantHeld(t, "a great record")
	p.doAll(t, []call{{"save", great}, {"add", great[1:]}, {"open", ""}})
	p.wantHeld(t, "a great picture")
}

func TestP8_2ManyRecords(t *testing.T) {
	p := started(t)
	for i := range 20000 {
		p.l.Add([]byte(pattern(i % 7)))
		p.m.do(call{"add", pattern(i % 7)})
	}
	if n := p.l.Size(); n != len(p.m.stands()) {
		t.Fatalf("Size tells %d, not %d", n, len(p.m.stands()))
	}
	p.wantHeld(t, "many records")
	p.doAll(t, []call{{"save", "all"}, {"add", "a"}})
	p.wantHeld(t, "many records, saved")
}
