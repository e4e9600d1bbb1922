package wal_test

import (
	"bytes"
	"fmt"
	"math"
	"slices"
	"testing"

	"lockgate/api"
	"lockgate/disk"
	"lockgate/wal"
)

// P8.4: what is handed in stays; what is answered is new memory.

// TestP8_4WhatIsHandedInStays, with what there is room for behind it.
func TestP8_4WhatIsHandedInStays(t *testing.T) {
	for _, text := range []string{"", "a", "hello", emptyFrame, pattern(5000)} {
		p := started(t)
		for _, call := range []func([]byte) api.Errno{p.l.Add, p.l.Add, p.l.Save, p.l.Add, p.l.Save, p.l.Save} {
			b := roomy(text)
			ahead := slices.Clone(b[:cap(b)])
			if e := call(b); e != api.OK {
				t.Fatalf("the error %d", e)
			}
			if len(b) != len(text) || !bytes.Equal(b[:cap(b)], ahead) {
				t.Fatalf("%s: what was handed in is turned: %s", brief(text), brief(string(b[:cap(b)])))
			}
		}
		p.d.Arm(0)
		for _, call := range []func([]byte) api.Errno{p.l.Add, p.l.Save} {
			b := roomy(text)
			ahead := slices.Clone(b[:cap(b)])
			if call(b); !bytes.Equal(b[:cap(b)], ahead) {
				t.Fatalf("%s, down: what was handed in is turned", brief(text))
			}
		}
	}
}

// TestP8_4WhatIsHandedInIsWrittenOver: behind each call, of one memory for all.
func TestP8_4WhatIsHandedInIsWrittenOver(t *testing.T) {
	rows(calls(), 3, func(row []call) {
		p := started(t)
		for _, c := range row {
			b := roomy(c.text)
			switch c.name {
			case "add":
				p.l.Add(b)
				byHand(p.r, p.m.changes(c))
				p.m.do(c)
			case "save":
				p.l.Save(b)
				byHand(p.r, p.m.changes(c))
				p.m.do(c)
			default:
				p.do(t, c)
			}
			over(b)
			wantSame(t, fmt.Sprint(row), p.d, p.r)
			p.wantHeld(t, fmt.Sprint(row))
		}
	})
}

func TestP8_4OneMemoryForAll(t *testing.T) {
	p := started(t)
	b := make([]byte, 4)
	for i := range 50 {
		copy(b, pattern(300)[i:])
		text := string(b[:i%5])
		if i%9 == 8 {
			p.l.Save(b[:i%5])
			p.m.do(call{"save", text})
		} else {
			p.l.Add(b[:i%5])
			p.m.do(call{"add", text})
		}
		p.wantHeld(t, fmt.Sprint("call ", i))
	}
}

// opening is what an Open answered.
type opening struct {
	l       *wal.Log
	picture []byte
	recs    [][]byte
}

// each is all lists of bytes that were told.
func (o opening) each() [][]byte { return append([][]byte{o.picture}, o.recs...) }

// turnAll writes over all that was told, with what there is room for behind it.
func (o opening) turnAll() {
	for _, b := range o.each() {
		over(b)
	}
	all := o.recs[:cap(o.recs)]
	for i := range all {
		all[i] = []byte("turned")
	}
}

func openIt(t *testing.T, d *disk.Disk) opening {
	t.Helper()
	l, picture, recs, e := wal.Open(d)
	if e != api.OK {
		t.Fatalf("the error %d", e)
	}
	return opening{l, picture, recs}
}

// TestP8_4WhatIsToldIsWrittenOver: neither the log nor the disk is turned, whatever is called then.
func TestP8_4WhatIsToldIsWrittenOver(t *testing.T) {
	for _, x := range beginnings() {
		rows(calls(), 2, func(row []call) {
			p := opened(t, x.m, x.row...)
			c := p.d.Clone()
			o := openIt(t, p.d)
			byHand(p.r, p.m.changes(call{"open", ""}))
			p.m.do(call{"open", ""})
			p.l = o.l
			o.turnAll()
			wantSame(t, x.name, p.d, p.r)
			p.wantHeld(t, x.name)
			p.doAll(t, row)
			o.turnAll()
			wantSame(t, fmt.Sprint(x.name, row), p.d, p.r)
			p.wantHeld(t, fmt.Sprint(x.name, row))
			wantOpens(t, x.name+", a clone", c, x.m)
		})
	}
}

// TestP8_4WhatIsToldStays, whatever is called then.
func TestP8_4WhatIsToldStays(t *testing.T) {
	for _, x := range beginnings() {
		rows(calls(), 2, func(row []call) {
			p := opened(t, x.m, x.row...)
			o := openIt(t, p.d)
			p.m.do(call{"open", ""})
			p.l = o.l
			for _, c := range row {
				switch c.name {
				case "add":
					p.l.Add([]byte(c.text))
				case "flush":
					p.l.Flush()
				case "save":
					p.l.Save([]byte(c.text))
				case "open":
					openIt(t, p.d).turnAll()
				}
				wantTold(t, fmt.Sprint(x.name, row), o.picture, o.recs, x.m)
			}
			p.d.Wipe(0)
			p.d.Wipe(1)
			p.d.Crash(0, 0)
			wantTold(t, fmt.Sprint(x.name, row), o.picture, o.recs, x.m)
		})
	}
}

// TestP8_4NoTwoShare: each list of bytes is written over, and appended to, and the others of the answer stay.
func TestP8_4NoTwoShare(t *testing.T) {
	m := &model{picture: "pic", recs: []string{"r", "", "stu", "", "vw", "r"}}
	d := made(t, add(0, m.stands()+"rest"))
	want := append([]string{m.picture}, m.recs...)
	for at := range want {
		o := openIt(t, d.Clone())
		l := o.each()
		_ = append(l[at], "more"...)
		over(l[at])
		for i, b := range l {
			if i != at && string(b) != want[i] {
				t.Errorf("list %d is written over, and %d is %q then", at, i, b)
			}
		}
	}
	o := openIt(t, d.Clone())
	_ = append(o.recs[:2], []byte("put"))
	if string(o.picture) != "pic" {
		t.Errorf("the records are written over, and the picture is %q then", o.picture)
	}
}

// TestP8_4ClonesStayApart: logs of a disk and of its clone know nothing of each other.
func TestP8_4ClonesStayApart(t *testing.T) {
	for _, x := range beginnings() {
		d := made(t, x.row...)
		c := d.Clone()
		l := wantOpens(t, x.name, d, x.m)
		l.Add([]byte("one"))
		l.Save([]byte("two"))
		l.Add([]byte("three"))
		wantSame(t, x.name, c, made(t, x.row...))
		k := wantOpens(t, x.name, c, x.m)
		k.Save([]byte("four"))
		if l.Size() != len(framed("two", "three")) || k.Size() != len(framed("four")) {
			t.Errorf("%s: Size tells %d and %d", x.name, l.Size(), k.Size())
		}
		wantOpens(t, x.name, d, &model{picture: "two", recs: []string{"three"}})
		wantOpens(t, x.name, c, &model{picture: "four"})
	}
}

// TestP8_4SizeAsksNothing: it is the same asked again, and turns nothing.
func TestP8_4SizeAsksNothing(t *testing.T) {
	rows(fewCalls(), 3, func(row []call) {
		p := started(t)
		p.doAll(t, row)
		p.d.Arm(1)
		p.r.Arm(1)
		for range 3 {
			if n := p.l.Size(); n != len(p.m.stands()) {
				t.Fatalf("%v: Size tells %d", row, n)
			}
		}
		wantSame(t, fmt.Sprint(row), p.d, p.r)
	})
}

// All of it.

// TestP8LongWalks is of calls that come of a rule, armed and crashed on the way, held against the model at each step.
func TestP8LongWalks(t *testing.T) {
	next := uint32(1)
	take := func(n int) int {
		next = next*1664525 + 1013904223
		return int(next>>16) % n
	}
	for walk := range 200 {
		p := started(t)
		for step := range 60 {
			name := fmt.Sprint("walk ", walk, ", step ", step)
			if take(8) == 0 {
				n := take(9)
				p.d.Arm(n)
				p.r.Arm(n)
			}
			c := calls()[take(7)]
			if c.text != "" {
				c.text = pattern(take(30))
			}
			g := p.cutOff(t, []call{c})
			wantSame(t, name, p.d, p.r)
			if !p.d.Down() {
				p.wantHeld(t, name)
				continue
			}
			p = g.crashed(t, name, p.d, take(4)-1, take(50)-1)
		}
	}
}

// crashed is a pair of what a crash left, which is to be what the grip holds.
func (g grip) crashed(t *testing.T, name string, d *disk.Disk, keep, torn int) *pair {
	t.Helper()
	d.Crash(keep, torn)
	r, s := d.Clone(), stood(t, name, d)
	l, picture, recs, e := wal.Open(d)
	if e != api.OK || !g.holds(picture, recs) {
		t.Fatalf("%s, Crash(%d, %d): %d, %q, %q, which isn't of %q, %q, %d safe", name, keep, torn, e, picture, recs, g.m.picture, g.m.recs, g.m.safe)
	}
	m := &model{empty: s.areas[s.front] == "", front: s.front, picture: string(picture), recs: texts(recs)}
	byHand(r, m.changes(call{"open", ""}))
	m.do(call{"open", ""})
	return &pair{l, d, r, m}
}

// P1: every call ends, and none panics.

func TestP1NoLogAndNoDisk(t *testing.T) {
	var none *wal.Log
	l, picture, recs, e := wal.Open(nil)
	if e != api.OK {
		wantNothing(t, "no disk", l, picture, recs)
	}
	for _, x := range []*wal.Log{none, l, {}} {
		x.Flush()
		x.Size()
		x.Add(nil)
		x.Add([]byte("a"))
		x.Save(nil)
		x.Save([]byte("a"))
		x.Size()
	}
}

// TestP1TooLong: of what is longer than a frame may be nothing is promised; it is asked for nothing but that nothing panics.
func TestP1TooLong(t *testing.T) {
	long := make([]byte, api.MaxFrame+1)
	for range 2 {
		d := disk.New()
		l := wantOpens(t, "a new disk", d, newModel(0))
		l.Add(long)
		l.Size()
		l.Flush()
		wal.Open(d)
		l.Save(long)
		wal.Open(d)
	}
}

// TestP1EachCallBehindACrash: of such a log nothing is promised; it is asked for nothing but that nothing panics.
func TestP1EachCallBehindACrash(t *testing.T) {
	for _, x := range beginnings() {
		for _, n := range []int{math.MinInt, -1, 0, 1, 2, 13, math.MaxInt} {
			p := opened(t, x.m, x.row...)
			for _, change := range []func(){
				func() { p.d.Crash(n, n) },
				func() { p.d.Wipe(0) },
				func() { p.d.Wipe(1) },
				func() { p.d.Append(0, []byte("bytes")) },
				func() { p.d.Front(0) },
				func() { p.d.Arm(n) },
			} {
				change()
				p.l.Add([]byte("a"))
				p.l.Save([]byte("b"))
				p.l.Flush()
				p.l.Size()
				wal.Open(p.d)
			}
		}
	}
}
