package disk_test

import (
	"bytes"
	"fmt"
	"math"
	"slices"
	"testing"

	"lockgate/api"
	"lockgate/disk"
)

// P7.4: Clone.

// condition is a disk's, with what is to be there.
type condition struct {
	name string
	make func(t *testing.T) *disk.Disk
	m    *model
}

// conditions has what lasts, what is loose, armed or not, down or not.
func conditions() []condition {
	var l []condition
	for _, row := range [][]change{
		nil,
		{add(0, "ab"), add(1, "cd"), front(1), sync},
		{add(0, "ab"), add(1, "cd"), front(1)},
		{add(0, "ab"), add(1, "cd"), sync, add(0, "efg"), front(1), wipe(1), add(1, "hi")},
		{wipe(0), front(0), add(0, "")},
	} {
		for _, n := range []int{-1, 0, 1, 2, 100} {
			m := modelOf(row...)
			m.arm(n)
			l = append(l, condition{fmt.Sprint(row, " armed with ", n), func(t *testing.T) *disk.Disk {
				d := run(t, row...)
				d.Arm(n)
				return d
			}, m})
		}
		if len(row) > 2 {
			m := newModel()
			m.arm(2)
			for _, c := range row {
				m.do(c)
			}
			l = append(l, condition{fmt.Sprint(row, " gone down on the way"), func(t *testing.T) *disk.Disk {
				d := disk.New()
				d.Arm(2)
				for _, c := range row {
					c.on(d)
				}
				return d
			}, m})
		}
		m := modelOf(row...)
		m.crash(1, 1)
		l = append(l, condition{fmt.Sprint(row, " crashed"), func(t *testing.T) *disk.Disk {
			d := run(t, row...)
			d.Crash(1, 1)
			return d
		}, m})
	}
	return l
}

// act is what may be done with a disk beside its changes.
type act struct {
	name string
	do   func(d *disk.Disk) api.Errno
	as   func(m *model) api.Errno
}

func acts() []act {
	var l []act
	for _, c := range append(eachChange(), add(2, "x"), wipe(-1), front(2)) {
		l = append(l, act{fmt.Sprint(c), c.on, func(m *model) api.Errno { return m.do(c) }})
	}
	for _, n := range []int{-1, 0, 1, 2} {
		l = append(l, act{fmt.Sprint("Arm ", n), func(d *disk.Disk) api.Errno { d.Arm(n); return 0 }, func(m *model) api.Errno { m.arm(n); return 0 }})
	}
	for _, x := range [][2]int{{0, 0}, {0, 1}, {1, 0}, {1, 1}, {2, 0}, {3, 1}, {math.MaxInt, math.MaxInt}, {math.MinInt, math.MinInt}} {
		l = append(l, act{fmt.Sprint("Crash ", x), func(d *disk.Disk) api.Errno { d.Crash(x[0], x[1]); return 0 }, func(m *model) api.Errno { m.crash(x[0], x[1]); return 0 }})
	}
	return l
}

// apply does the act at both, and asks that they answer alike.
func apply(t *testing.T, name string, a act, d *disk.Disk, m *model) {
	t.Helper()
	if got, want := a.do(d), a.as(m); got != want {
		t.Fatalf("%s: %s answers the error %d, not %d", name, a.name, got, want)
	}
	wantAs(t, name+", "+a.name, d, m)
}

func TestP7_4CloneIsTheSame(t *testing.T) {
	for _, x := range conditions() {
		d := x.make(t)
		c := d.Clone()
		wantAs(t, x.name+", the clone", c, x.m)
		wantAs(t, x.name+", the clone's clone", c.Clone(), x.m)
		wantAs(t, x.name, d, x.m)
	}
}

// TestP7_4CloneGoesOnTheSame: also what doesn't show at once is the same: what is armed, and what lasts.
func TestP7_4CloneGoesOnTheSame(t *testing.T) {
	for _, x := range conditions() {
		for _, a := range acts() {
			for _, b := range acts() {
				c, m := x.make(t).Clone(), x.m.clone()
				apply(t, x.name+", the clone", a, c, m)
				apply(t, x.name+", the clone, "+a.name, b, c, m)
			}
		}
	}
}

// TestP7_4CloneIsItsOwn: what is done with either isn't with the other.
func TestP7_4CloneIsItsOwn(t *testing.T) {
	for _, x := range conditions() {
		for _, a := range acts() {
			for _, b := range acts() {
				d := x.make(t)
				c := d.Clone()
				md, mc := x.m.clone(), x.m.clone()
				apply(t, x.name+", the disk", a, d, md)
				wantAs(t, x.name+", the clone behind the disk's "+a.name, c, mc)
				apply(t, x.name+", the clone", b, c, mc)
				wantAs(t, x.name+", the disk behind the clone's "+b.name, d, md)
				d.Crash(1, 1)
				md.crash(1, 1)
				wantAs(t, x.name+", the disk, crashed", d, md)
				wantAs(t, x.name+", the clone behind the disk's crash", c, mc)
				c.Crash(1, 1)
				mc.crash(1, 1)
				wantAs(t, x.name+", the clone, crashed", c, mc)
			}
		}
	}
}

// TestP7_4ManyClonesGrowApart: each one gets other bytes behind the same ones. A second crash shows what lasts behind the first one.
func TestP7_4ManyClonesGrowApart(t *testing.T) {
	for _, n := range []int{1, 2, 3, 5, 8, 9, 15, 16, 17, 31, 33, 100} {
		for _, ahead := range [][]change{nil, {sync}} {
			var disks []*disk.Disk
			var models []*model
			row := append(slices.Repeat([]change{add(0, "a"), add(1, "bb")}, n), ahead...)
			first, m := run(t, row...), modelOf(row...)
			for i := range 5 {
				disks, models = append(disks, first.Clone()), append(models, m.clone())
				for _, c := range []change{add(0, fmt.Sprint("c", i)), front(i % 2), add(1, fmt.Sprint(i, "d"))} {
					more(t, disks[i], c)
					models[i].do(c)
				}
			}
			disks, models = append(disks, first), append(models, m)
			wantAllAs(t, fmt.Sprint(n, ahead), disks, models)
			for _, x := range [][2]int{{len(m.loose) + 2, 1}, {0, 0}} {
				for i := range disks {
					disks[i].Crash(x[0], x[1])
					models[i].crash(x[0], x[1])
				}
				wantAllAs(t, fmt.Sprint(n, ahead, " Crash ", x), disks, models)
			}
		}
	}
}

func wantAllAs(t *testing.T, name string, disks []*disk.Disk, models []*model) {
	t.Helper()
	for i, d := range disks {
		wantAs(t, fmt.Sprint(name, ", clone ", i), d, models[i])
	}
}

// P7.6: memory.

func TestP7_6WhatIsHandedInStays(t *testing.T) {
	for _, text := range []string{"", "a", "abc", string(pattern(1000))} {
		for area := range 2 {
			for _, n := range []int{-1, 0, 1} {
				b := roomy(text)
				behind := bytes.Clone(b[:cap(b)])
				d := disk.New()
				d.Arm(n)
				d.Append(area, b)
				d.Append(area, b)
				d.Append(5, b)
				d.Crash(1, 1)
				d.Append(area, b)
				d.Append(area, []byte("more"))
				d.Sync()
				if string(b) != text || !bytes.Equal(b[:cap(b)], behind) {
					t.Errorf("%s, area %d, armed with %d: what is handed in is other bytes", brief(text), area, n)
				}
			}
		}
	}
}

// TestP7_6WhatIsHandedInMayBeWrittenOver: at once, and ahead of a sync, a crash, a clone.
func TestP7_6WhatIsHandedInMayBeWrittenOver(t *testing.T) {
	for _, behind := range []struct {
		name string
		do   func(d *disk.Disk) *disk.Disk
		want stand
	}{
		{"nothing", func(d *disk.Disk) *disk.Disk { return d }, stand{[2]string{"abcghi", "def"}, 0}},
		{"a sync", func(d *disk.Disk) *disk.Disk { d.Sync(); return d }, stand{[2]string{"abcghi", "def"}, 0}},
		{"a sync and a crash", func(d *disk.Disk) *disk.Disk { d.Sync(); d.Crash(0, 0); return d }, stand{[2]string{"abcghi", "def"}, 0}},
		{"a crash that keeps all", func(d *disk.Disk) *disk.Disk { d.Crash(3, 0); return d }, stand{[2]string{"abcghi", "def"}, 0}},
		{"a crash that keeps one", func(d *disk.Disk) *disk.Disk { d.Crash(1, 0); return d }, stand{[2]string{"abc", ""}, 0}},
		{"a crash that tears one", func(d *disk.Disk) *disk.Disk { d.Crash(2, 2); return d }, stand{[2]string{"abcgh", "def"}, 0}},
		{"a crash that tears the first one", func(d *disk.Disk) *disk.Disk { d.Crash(0, 2); return d }, stand{[2]string{"ab", ""}, 0}},
		{"a clone", func(d *disk.Disk) *disk.Disk { return d.Clone() }, stand{[2]string{"abcghi", "def"}, 0}},
		{"a clone that crashes", func(d *disk.Disk) *disk.Disk { c := d.Clone(); c.Crash(2, 2); return c }, stand{[2]string{"abcgh", "def"}, 0}},
	} {
		for _, late := range []bool{false, true} {
			d := disk.New()
			var handed [][]byte
			for i, text := range []string{"abc", "def", "ghi"} {
				b := roomy(text)
				d.Append(i%2, b)
				if !late {
					over(b)
				}
				handed = append(handed, b)
			}
			d = behind.do(d)
			for _, b := range handed {
				over(b)
			}
			if got := told(t, behind.name, d); got != behind.want {
				t.Errorf("behind %s, late: %v: %v, not %v", behind.name, late, got, behind.want)
			}
		}
	}
}

// TestP7_6TheSameBytesHandedInAgain: the caller may use one piece of memory for all its records.
func TestP7_6TheSameBytesHandedInAgain(t *testing.T) {
	b := make([]byte, 1)
	d := disk.New()
	want := ""
	for i := range 100 {
		b[0] = byte(i)
		d.Append(0, b)
		want += string(b)
	}
	wantUp(t, "loose", d, 100, stand{[2]string{want, ""}, 0})
	d.Crash(50, 1)
	wantUp(t, "crashed", d, 0, stand{[2]string{want[:51], ""}, 0})
}

// TestP7_6WhatIsAnsweredIsNew: it may be written over, and behind its end too.
func TestP7_6WhatIsAnsweredIsNew(t *testing.T) {
	for _, text := range []string{"a", "abc", string(pattern(1000))} {
		for _, row := range [][]change{
			{add(0, text), add(1, text)},
			{add(0, text), add(1, text), sync},
			{add(0, text), sync, add(0, text), add(1, text)},
			{add(0, text), add(1, text), add(0, "x"), add(1, "y"), add(0, "z")},
		} {
			d, m := run(t, row...), modelOf(row...)
			var l [][]byte
			for range 3 {
				for area := range 2 {
					b, _ := d.Read(area)
					l = append(l, b)
				}
			}
			for i, b := range l {
				if string(b) != m.now().areas[i%2] {
					t.Fatalf("%v: what was answered ahead turned", row)
				}
				over(b)
			}
			wantAs(t, "written over", d, m)
			c := d.Clone()
			more(t, d, add(0, "new"), add(1, "new"))
			m.do(add(0, "new"))
			m.do(add(1, "new"))
			wantAs(t, "gone on", d, m)
			c.Crash(math.MaxInt, 0)
			d.Crash(1, 1)
			m.crash(1, 1)
			wantAs(t, "crashed", d, m)
		}
	}
}

// TestP7_6WhatIsAnsweredStays: whatever the disk does then.
func TestP7_6WhatIsAnsweredStays(t *testing.T) {
	for _, x := range conditions() {
		if x.m.down {
			continue
		}
		for _, a := range acts() {
			d := x.make(t)
			var l [2][]byte
			for area := range l {
				l[area], _ = d.Read(area)
			}
			room := [2][]byte{bytes.Clone(l[0][:cap(l[0])]), bytes.Clone(l[1][:cap(l[1])])}
			a.do(d)
			d.Append(0, []byte("more"))
			d.Append(1, []byte("more"))
			d.Crash(1, 1)
			d.Append(0, []byte("other"))
			d.Append(1, []byte("other"))
			for area, b := range l {
				if string(b) != x.m.now().areas[area] || !bytes.Equal(b[:cap(b)], room[area]) {
					t.Fatalf("%s: what was answered of area %d turned with %s", x.name, area, a.name)
				}
			}
		}
	}
}

// TestP7_6WhatIsAnsweredHandedIn: a disk's bytes may be appended to it.
func TestP7_6WhatIsAnsweredHandedIn(t *testing.T) {
	d := run(t, add(0, "abc"), sync)
	for range 3 {
		b, _ := d.Read(0)
		d.Append(0, b)
		d.Append(1, b)
		over(b)
	}
	all := bytes.Repeat([]byte("abc"), 8)
	wantUp(t, "doubled", d, 6, stand{[2]string{string(all), string(all[:21])}, 0})
	d.Crash(4, 5)
	wantUp(t, "doubled and crashed", d, 0, stand{[2]string{string(all[:17]), string(all[:9])}, 0})
}

// TestP7_6AppendedToWhatIsAnswered: there may be room behind it, but none of the disk's.
func TestP7_6AppendedToWhatIsAnswered(t *testing.T) {
	d := disk.New()
	for range 40 {
		more(t, d, add(0, "a"))
		b, _ := d.Read(0)
		c, _ := d.Read(0)
		b = append(b, "bbbb"...)
		c = append(c, "cccc"...)
		if !bytes.HasSuffix(b, []byte("bbbb")) || !bytes.HasSuffix(c, []byte("cccc")) {
			t.Fatal("two answers share memory")
		}
	}
	more(t, d, sync)
	wantUp(t, "appended to", d, 0, stand{[2]string{string(bytes.Repeat([]byte("a"), 40)), ""}, 0})
}

// All of it.

// TestP7LongWalks is of calls that come of a rule, at a disk and at clones of it, held against the model at each step.
func TestP7LongWalks(t *testing.T) {
	next := uint32(1)
	take := func(n int) int {
		next = next*1664525 + 1013904223
		return int(next>>16) % n
	}
	type pair struct {
		d *disk.Disk
		m *model
	}
	all := acts()
	for range 200 {
		l := []pair{{disk.New(), newModel()}}
		for step := range 200 {
			x := l[take(len(l))]
			a := all[take(len(all))]
			if take(3) > 0 {
				a = all[take(9)]
			}
			if x.m.down && take(2) == 0 {
				keep, torn := take(len(x.m.loose)+2)-1, take(5)-1
				a = act{"a crash", func(d *disk.Disk) api.Errno { d.Crash(keep, torn); return 0 }, func(m *model) api.Errno { m.crash(keep, torn); return 0 }}
			}
			apply(t, fmt.Sprint("step ", step), a, x.d, x.m)
			if take(20) == 0 && len(l) < 4 {
				l = append(l, pair{x.d.Clone(), x.m.clone()})
			}
			for i, y := range l {
				wantAs(t, fmt.Sprint("disk ", i, " behind step ", step), y.d, y.m)
			}
		}
	}
}

// P1: every call ends, and none panics.

func TestP1EachCallAtEachEnd(t *testing.T) {
	numbers := append(ends(4), wrongAreas...)
	slices.Sort(numbers)
	for _, x := range conditions() {
		for _, n := range slices.Compact(numbers) {
			d := x.make(t)
			for range 2 {
				d.Append(n, nil)
				d.Append(n, []byte("abc"))
				d.Wipe(n)
				d.Front(n)
				d.Read(n)
				d.First()
				d.Loose()
				d.Down()
				d.Arm(n)
				d.Clone().Crash(n, n)
				d.Clone().Crash(n, 1)
				d.Clone().Crash(1, n)
				d.Sync()
				d.Crash(n, n)
			}
			d.Crash(0, 0)
			wantUp(t, x.name, d, 0, told(t, x.name, d))
		}
	}
}

// TestP1NoDisk: of no disk nothing is promised; it is asked for nothing but that nothing panics.
func TestP1NoDisk(t *testing.T) {
	var none *disk.Disk
	for _, d := range []*disk.Disk{none, none.Clone(), {}} {
		for _, n := range []int{-1, 0, 1, 2} {
			d.Append(n, []byte("a"))
			d.Wipe(n)
			d.Front(n)
			d.Read(n)
			d.First()
			d.Sync()
			d.Loose()
			d.Down()
			d.Arm(n)
			d.Crash(n, n)
			d.Clone()
		}
	}
}
