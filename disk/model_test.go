package disk_test

import (
	"bytes"
	"fmt"
	"math"
	"slices"
	"testing"

	"lockgate/api"
	"lockgate/disk"
)

// stand is what stands on a disk, as texts: one is kept as it is while another comes of it.
type stand struct {
	areas [2]string
	front int
}

func (s stand) String() string {
	return fmt.Sprint(brief(s.areas[0]), ", ", brief(s.areas[1]), ", ", s.front, " in front")
}

// change is a call that changes a disk.
type change struct {
	name string
	area int
	text string
}

func add(area int, text string) change { return change{"append", area, text} }
func wipe(area int) change             { return change{"wipe", area, ""} }
func front(area int) change            { return change{"front", area, ""} }

var sync = change{"sync", 0, ""}

func (c change) String() string { return fmt.Sprint(c.name, " ", c.area, " ", brief(c.text)) }

func (c change) on(d *disk.Disk) api.Errno {
	switch c.name {
	case "append":
		return d.Append(c.area, []byte(c.text))
	case "wipe":
		return d.Wipe(c.area)
	case "front":
		return d.Front(c.area)
	case "sync":
		return d.Sync()
	}
	panic(c.name)
}

func (c change) over(s stand) stand {
	switch c.name {
	case "append":
		s.areas[c.area] += c.text
	case "wipe":
		s.areas[c.area] = ""
	case "front":
		s.front = c.area
	}
	return s
}

// model is what a disk is to be. It knows what stood behind each loose change, and does none of them again.
type model struct {
	stands []stand // the first one is lasting, and there is one more behind each loose change
	loose  []change
	left   int // below 0: it isn't armed
	down   bool
}

func newModel() *model { return &model{stands: make([]stand, 1), left: -1} }

func (m *model) now() stand { return m.stands[len(m.stands)-1] }

func (m *model) do(c change) api.Errno {
	if c.area < 0 || c.area > 1 {
		return api.ErrArg
	}
	if m.down {
		return api.ErrDown
	}
	if c == sync {
		m.stands, m.loose = []stand{m.now()}, nil
	} else {
		m.stands, m.loose = append(m.stands, c.over(m.now())), append(m.loose, c)
	}
	if m.left > 0 {
		m.left--
		m.down = m.left == 0
	}
	return api.OK
}

func (m *model) arm(n int) {
	if !m.down {
		m.left, m.down = n, n == 0
	}
}

func (m *model) crash(keep, torn int) {
	keep = max(keep, 0)
	if keep >= len(m.loose) {
		m.stands = []stand{m.now()}
	} else {
		s := m.stands[keep]
		if c := m.loose[keep]; c.name == "append" && torn > 0 {
			s.areas[c.area] += c.text[:min(torn, len(c.text))]
		}
		m.stands = []stand{s}
	}
	m.loose, m.left, m.down = nil, -1, false
}

func (m *model) clone() *model {
	c := *m
	c.stands, c.loose = slices.Clone(m.stands), slices.Clone(m.loose)
	return &c
}

// wrongAreas are no areas.
var wrongAreas = []int{-1, 2, -2, 3, math.MinInt, math.MaxInt, math.MinInt32, math.MaxInt32, 1 << 32, 1<<32 + 1, 256, 257}

// brief keeps what a failing test prints short.
func brief(s string) string {
	if len(s) > 40 {
		return fmt.Sprintf("%q .. (%d bytes)", s[:40], len(s))
	}
	return fmt.Sprintf("%q", s)
}

// told is what a disk that is up tells; it fails if it is down.
func told(t *testing.T, name string, d *disk.Disk) stand {
	t.Helper()
	var s stand
	for area := range 2 {
		b, e := d.Read(area)
		if e != api.OK {
			t.Fatalf("%s: Read(%d) answers the error %d", name, area, e)
		}
		s.areas[area] = string(b)
	}
	f, e := d.First()
	if e != api.OK {
		t.Fatalf("%s: First answers the error %d", name, e)
	}
	s.front = f
	return s
}

// wantUp asks that the disk is up, and of all that it tells.
func wantUp(t *testing.T, name string, d *disk.Disk, loose int, want stand) {
	t.Helper()
	if d.Down() {
		t.Fatalf("%s: it is down", name)
	}
	if n := d.Loose(); n != loose {
		t.Fatalf("%s: %d changes are loose, not %d", name, n, loose)
	}
	if s := told(t, name, d); s != want {
		t.Fatalf("%s: %v, not %v", name, s, want)
	}
}

// wantDown asks that the disk is down, that nobody is told what stands on it, and how much is loose.
func wantDown(t *testing.T, name string, d *disk.Disk, loose int) {
	t.Helper()
	if !d.Down() {
		t.Fatalf("%s: it is up", name)
	}
	if n := d.Loose(); n != loose {
		t.Fatalf("%s: %d changes are loose, not %d", name, n, loose)
	}
	for area := range 2 {
		if b, e := d.Read(area); len(b) != 0 || e != api.ErrDown {
			t.Fatalf("%s: Read(%d) answers %v, %d", name, area, b, e)
		}
	}
	if f, e := d.First(); f != 0 || e != api.ErrDown {
		t.Fatalf("%s: First answers %d, %d", name, f, e)
	}
}

// wantAs asks that a disk tells what its model does.
func wantAs(t *testing.T, name string, d *disk.Disk, m *model) {
	t.Helper()
	if m.down {
		wantDown(t, name, d, len(m.loose))
	} else {
		wantUp(t, name, d, len(m.loose), m.now())
	}
}

// run does changes at a new disk, each of which is to be done.
func run(t *testing.T, row ...change) *disk.Disk {
	t.Helper()
	d := disk.New()
	more(t, d, row...)
	return d
}

func more(t *testing.T, d *disk.Disk, row ...change) {
	t.Helper()
	for i, c := range row {
		if e := c.on(d); e != api.OK {
			t.Fatalf("%v: the change %d answers the error %d", row, i, e)
		}
	}
}

// modelOf is what is to be behind the changes.
func modelOf(row ...change) *model {
	m := newModel()
	for _, c := range row {
		m.do(c)
	}
	return m
}

// eachChange has every kind of change on both areas, and those of which nothing comes.
func eachChange() []change {
	return []change{add(0, "ab"), add(1, "cde"), add(0, ""), add(1, ""), wipe(0), wipe(1), front(0), front(1), sync}
}

// fewChanges has one of each kind and area: for longer rows.
func fewChanges() []change {
	return []change{add(0, "ab"), add(1, "cde"), wipe(0), wipe(1), front(0), front(1), sync}
}

// rows calls f with all rows of so many of the changes, at most. It hands out the same memory each time.
func rows(of []change, most int, f func(row []change)) {
	row := make([]change, 0, most)
	var from func()
	from = func() {
		f(row)
		if len(row) == most {
			return
		}
		for _, c := range of {
			row = append(row, c)
			from()
			row = row[:len(row)-1]
		}
	}
	from()
}

// pattern is n bytes, unlike from one to the next.
func pattern(n int) []byte {
	b := make([]byte, n)
	for i := range b {
		b[i] = byte(i*7 + i/251)
	}
	return b
}

// ends are the numbers around those of so many, and the least and the greatest ones.
func ends(most int) []int {
	l := []int{math.MinInt, math.MinInt + 1, math.MinInt32, -2, -1}
	for n := range most + 3 {
		l = append(l, n)
	}
	return append(l, math.MaxInt32, 1<<32, math.MaxInt-1, math.MaxInt)
}

// over turns all the bytes, and those that there is room for behind them.
func over(b []byte) {
	b = b[:cap(b)]
	for i := range b {
		b[i] ^= 255
	}
}

// roomy is the text's bytes with room for more.
func roomy(text string) []byte {
	return append(bytes.Repeat([]byte{170}, len(text)+50)[:0], text...)
}
