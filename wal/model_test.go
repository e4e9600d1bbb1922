package wal_test

import (
	"bytes"
	"encoding/binary"
	"fmt"
	"hash/fnv"
	"math"
	"slices"
	"strings"
	"testing"

	"lockgate/api"
	"lockgate/disk"
	"lockgate/wal"
)

// head is how many bytes of a frame stand ahead of its record.
const head = 12

// framed is frames in a row, by Go's own library, which knows nothing of the program.
func framed(recs ...string) string {
	var all []byte
	for _, rec := range recs {
		size := binary.LittleEndian.AppendUint32(nil, uint32(len(rec)))
		h := fnv.New64a()
		h.Write(size)
		h.Write([]byte(rec))
		all = append(all, binary.LittleEndian.AppendUint64(size, h.Sum64())...)
		all = append(all, rec...)
	}
	return string(all)
}

// change is one that is done at a disk by hand.
type change struct {
	name string
	area int
	text string
}

func add(area int, text string) change { return change{"append", area, text} }
func wipe(area int) change             { return change{"wipe", area, ""} }
func front(area int) change            { return change{"front", area, ""} }

var sync = change{"sync", 0, ""}

func (c change) String() string { return fmt.Sprint(c.name, " ", c.area, " ", brief(c.text)) }

func (c change) on(d *disk.Disk) api.Errno {
	switch c.name {
	case "append":
		return d.Append(c.area, []byte(c.text))
	case "wipe":
		return d.Wipe(c.area)
	case "front":
		return d.Front(c.area)
	case "sync":
		return d.Sync()
	}
	panic(c.name)
}

// byHand does changes until one answers an error, and tells that.
func byHand(d *disk.Disk, row []change) api.Errno {
	for _, c := range row {
		if e := c.on(d); e != api.OK {
			return e
		}
	}
	return api.OK
}

// made is a new disk behind the changes, each of which is to be done.
func made(t *testing.T, row ...change) *disk.Disk {
	t.Helper()
	d := disk.New()
	if e := byHand(d, row); e != api.OK {
		t.Fatalf("%v: the error %d", row, e)
	}
	return d
}

// turned is the five changes that put the text in front.
func turned(area int, text string) []change {
	return []change{wipe(area), add(area, text), sync, front(area), sync}
}

// call is one of a log's.
type call struct{ name, text string }

func (c call) String() string { return c.name + " " + brief(c.text) }

// calls has one of each kind, and those with nothing.
func calls() []call {
	return []call{{"add", ""}, {"add", "a"}, {"add", "bcd"}, {"flush", ""}, {"save", ""}, {"save", "all"}, {"open", ""}}
}

// fewCalls has one of each kind: for longer rows.
func fewCalls() []call {
	return []call{{"add", "ab"}, {"flush", ""}, {"save", "all"}, {"open", ""}}
}

// model is what a log is to hold. Safe: how many records no crash may take.
type model struct {
	empty   bool
	front   int
	picture string
	recs    []string
	safe    int
}

func newModel(front int) *model { return &model{empty: true, front: front} }

func (m *model) clone() *model {
	c := *m
	c.recs = slices.Clone(m.recs)
	return &c
}

// stands is the bytes of the area in front.
func (m *model) stands() string {
	if m.empty {
		return ""
	}
	return framed(append([]string{m.picture}, m.recs...)...)
}

// changes is those that the call is to do, in order.
func (m *model) changes(c call) []change {
	switch c.name {
	case "add":
		if m.empty {
			return []change{add(m.front, framed("", c.text))}
		}
		return []change{add(m.front, framed(c.text))}
	case "flush":
		return []change{sync}
	case "save":
		return turned(1-m.front, framed(c.text))
	case "open":
		if m.empty {
			return nil
		}
		return turned(1-m.front, m.stands())
	}
	panic(c.name)
}

// do is the call, answered with OK.
func (m *model) do(c call) {
	switch c.name {
	case "add":
		m.empty, m.recs = false, append(m.recs, c.text)
	case "flush":
		m.safe = len(m.recs)
	case "save":
		*m = model{picture: c.text, front: 1 - m.front}
	case "open":
		if !m.empty {
			m.front = 1 - m.front
		}
		m.safe = len(m.recs)
	}
}

// pair is a log with its disk, what it is to hold, and a disk at which the changes are done by hand.
type pair struct {
	l    *wal.Log
	d, r *disk.Disk
	m    *model
}

// opened is a pair of a disk as the changes leave it; m is what is to be there.
func opened(t *testing.T, m *model, row ...change) *pair {
	t.Helper()
	p := &pair{d: made(t, row...), r: made(t, row...), m: m.clone()}
	p.do(t, call{"open", ""})
	return p
}

// started is a pair of a new disk.
func started(t *testing.T) *pair {
	t.Helper()
	return opened(t, newModel(0))
}

// on does the call at the log, and at the disk beside it by hand; it tells both answers.
func (p *pair) on(t *testing.T, c call) (got, want api.Errno) {
	t.Helper()
	switch c.name {
	case "add":
		got = p.l.Add([]byte(c.text))
	case "flush":
		got = p.l.Flush()
	case "save":
		got = p.l.Save([]byte(c.text))
	case "open":
		l, picture, recs, e := wal.Open(p.d)
		if e == api.OK {
			wantTold(t, "open", picture, recs, p.m)
			p.l = l
		} else {
			wantNothing(t, "open", l, picture, recs)
		}
		got = e
	}
	want = byHand(p.r, p.m.changes(c))
	if p.r.Down() && len(p.m.changes(c)) == 0 {
		want = api.ErrDown
	}
	return got, want
}

// do does the call, which is to be answered with OK, and asks of all that it leaves.
func (p *pair) do(t *testing.T, c call) {
	t.Helper()
	if got, want := p.on(t, c); got != api.OK || want != api.OK {
		t.Fatalf("%v: it answers %d, by hand it is %d", c, got, want)
	}
	p.m.do(c)
	if n := p.l.Size(); n != len(p.m.stands()) {
		t.Fatalf("%v: Size tells %d, not %d", c, n, len(p.m.stands()))
	}
}

func (p *pair) doAll(t *testing.T, row []call) {
	t.Helper()
	for _, c := range row {
		p.do(t, c)
	}
}

// wantHeld asks of a disk that is up what stands in front, and of a clone of it, armed no longer, what an Open tells.
func (p *pair) wantHeld(t *testing.T, name string) {
	t.Helper()
	if s := stood(t, name, p.d); s.front != p.m.front || s.areas[s.front] != p.m.stands() {
		t.Fatalf("%s: %v, not %s and %d in front", name, s, brief(p.m.stands()), p.m.front)
	}
	c := p.d.Clone()
	c.Arm(-1)
	wantOpens(t, name, c, p.m)
}

// stand is what stands on a disk.
type stand struct {
	areas [2]string
	front int
}

func (s stand) String() string {
	return fmt.Sprint(brief(s.areas[0]), ", ", brief(s.areas[1]), ", ", s.front, " in front")
}

// stood is what stands on a disk that is up; it fails if it is down.
func stood(t *testing.T, name string, d *disk.Disk) stand {
	t.Helper()
	var s stand
	for area := range 2 {
		b, e := d.Read(area)
		if e != api.OK {
			t.Fatalf("%s: Read(%d) answers the error %d", name, area, e)
		}
		s.areas[area] = string(b)
	}
	f, e := d.First()
	if e != api.OK {
		t.Fatalf("%s: First answers the error %d", name, e)
	}
	s.front = f
	return s
}

// wantStands asks of all that stands on a disk, and of what is loose there.
func wantStands(t *testing.T, name string, d *disk.Disk, loose int, want stand) {
	t.Helper()
	if n := d.Loose(); n != loose {
		t.Fatalf("%s: %d changes are loose, not %d", name, n, loose)
	}
	if s := stood(t, name, d); s != want {
		t.Fatalf("%s: %v, not %v", name, s, want)
	}
}

// wantSame asks that two disks are the same in all: up or down, and whichever crash comes.
func wantSame(t *testing.T, name string, d, r *disk.Disk) {
	t.Helper()
	if d.Down() != r.Down() || d.Loose() != r.Loose() {
		t.Fatalf("%s: down: %v, %d loose, not %v, %d", name, d.Down(), d.Loose(), r.Down(), r.Loose())
	}
	for keep := range r.Loose() + 1 {
		for _, torn := range []int{0, 5, head, head + 1, math.MaxInt} {
			dc, rc := d.Clone(), r.Clone()
			dc.Crash(keep, torn)
			rc.Crash(keep, torn)
			if got, want := stood(t, name, dc), stood(t, name, rc); got != want {
				t.Fatalf("%s, Crash(%d, %d): %v, not %v", name, keep, torn, got, want)
			}
		}
	}
}

// texts is the bytes of each as a text.
func texts(recs [][]byte) []string {
	var l []string
	for _, rec := range recs {
		l = append(l, string(rec))
	}
	return l
}

func wantTold(t *testing.T, name string, picture []byte, recs [][]byte, m *model) {
	t.Helper()
	if string(picture) != m.picture || !slices.Equal(texts(recs), m.recs) {
		t.Fatalf("%s: it tells %s and %s, not %s and %s", name, brief(string(picture)), briefs(texts(recs)), brief(m.picture), briefs(m.recs))
	}
}

// wantNothing asks that nothing stands beside an error.
func wantNothing(t *testing.T, name string, l *wal.Log, picture []byte, recs [][]byte) {
	t.Helper()
	if l != nil || len(picture) != 0 || len(recs) != 0 {
		t.Fatalf("%s: beside the error stand %v, %q, %q", name, l, picture, recs)
	}
}

// wantOpens opens the disk, asks what is told, and gives the log.
func wantOpens(t *testing.T, name string, d *disk.Disk, m *model) *wal.Log {
	t.Helper()
	l, picture, recs, e := wal.Open(d)
	if e != api.OK || l == nil {
		t.Fatalf("%s: Open answers the error %d, %v", name, e, l)
	}
	wantTold(t, name, picture, recs, m)
	if n := l.Size(); n != len(m.stands()) {
		t.Fatalf("%s: Size tells %d, not %d", name, n, len(m.stands()))
	}
	return l
}

// rows calls f with all rows of so many of the calls, at most. It hands out the same memory each time.
func rows(of []call, most int, f func(row []call)) {
	row := make([]call, 0, most)
	var from func()
	from = func() {
		f(row)
		if len(row) == most {
			return
		}
		for _, c := range of {
			row = append(row, c)
			from()
			row = row[:len(row)-1]
		}
	}
	from()
}

// beginning is a disk ahead of its first Open, and what is to be there.
type beginning struct {
	name string
	row  []change
	m    *model
}

// beginnings has either area in front, something or nothing in it and in the other one, lasting or loose.
func beginnings() []beginning {
	full := framed("pic", "r", "")
	l := []beginning{
		{"new", nil, newModel(0)},
		{"1 in front", []change{front(1), sync}, newModel(1)},
		{"1 in front, loose", []change{front(1)}, newModel(1)},
		{"the other one has frames", []change{add(1, framed("other", "one")), sync}, newModel(0)},
		{"the other one has bytes, 1 in front", []change{add(0, "bytes"), front(1), sync}, newModel(1)},
	}
	for area := range 2 {
		m := &model{front: area, picture: "pic", recs: []string{"r", ""}}
		l = append(l,
			beginning{fmt.Sprint("frames in ", area), []change{add(area, full), front(area), sync}, m},
			beginning{fmt.Sprint("loose frames in ", area), []change{add(area, full), front(area)}, m},
			beginning{fmt.Sprint("frames in ", area, ", the other one has frames"), []change{add(1-area, framed("other", "one", "two", "three")), add(area, full), front(area), sync}, m},
			beginning{fmt.Sprint("an empty picture in ", area), []change{add(area, framed("")), front(area), sync}, &model{front: area}},
			beginning{fmt.Sprint("a torn empty picture in ", area), []change{add(area, framed("")[:7]), front(area), sync}, &model{front: area}},
			beginning{fmt.Sprint("frames and half a one in ", area), []change{add(area, full+framed("cut")[:13]), front(area), sync}, m},
		)
	}
	return l
}

// pattern is n bytes, unlike from one to the next.
func pattern(n int) string {
	b := make([]byte, n)
	for i := range b {
		b[i] = byte(i*7 + i/251)
	}
	return string(b)
}

// brief keeps what a failing test prints short.
func brief(s string) string {
	if len(s) > 60 {
		return fmt.Sprintf("%q .. (%d bytes)", s[:60], len(s))
	}
	return fmt.Sprintf("%q", s)
}

func briefs(l []string) string {
	var b strings.Builder
	for _, s := range l[:min(len(l), 10)] {
		b.WriteString(brief(s) + " ")
	}
	return fmt.Sprintf("[%s(%d)]", b.String(), len(l))
}

// over turns all the bytes, and those that there is room for behind them.
func over(b []byte) {
	b = b[:cap(b)]
	for i := range b {
		b[i] ^= 255
	}
}

// roomy is the text's bytes with room for more.
func roomy(text string) []byte {
	return append(bytes.Repeat([]byte{170}, len(text)+50)[:0], text...)
}

// turnedAt is the text with one byte turned.
func turnedAt(text string, i int) string {
	b := []byte(text)
	b[i] ^= 1
	return string(b)
}
