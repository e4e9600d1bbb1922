package disk_test

import (
	"bytes"
	"fmt"
	"math"
	"slices"
	"strings"
	"testing"

	"lockgate/api"
	"lockgate/disk"
)

// P7.1: the changes, and what is told.

func TestP7_1New(t *testing.T) {
	d := disk.New()
	wantUp(t, "a new disk", d, 0, stand{})
	more(t, d, add(0, "ab"), add(1, "cd"), front(1))
	wantUp(t, "another new disk", disk.New(), 0, stand{})
}

func TestP7_1EachChangeByItself(t *testing.T) {
	ahead := []change{add(0, "one"), add(1, "two"), sync}
	for _, x := range []struct {
		c     change
		loose int
		want  stand
	}{
		{add(0, "x"), 1, stand{[2]string{"onex", "two"}, 0}},
		{add(1, "x"), 1, stand{[2]string{"one", "twox"}, 0}},
		{add(0, ""), 1, stand{[2]string{"one", "two"}, 0}},
		{add(1, ""), 1, stand{[2]string{"one", "two"}, 0}},
		{wipe(0), 1, stand{[2]string{"", "two"}, 0}},
		{wipe(1), 1, stand{[2]string{"one", ""}, 0}},
		{front(0), 1, stand{[2]string{"one", "two"}, 0}},
		{front(1), 1, stand{[2]string{"one", "two"}, 1}},
		{sync, 0, stand{[2]string{"one", "two"}, 0}},
	} {
		d := run(t, ahead...)
		wantUp(t, "ahead", d, 0, stand{[2]string{"one", "two"}, 0})
		more(t, d, x.c)
		wantUp(t, fmt.Sprint(x.c), d, x.loose, x.want)
	}
}

func TestP7_1EachChangeOfANewDisk(t *testing.T) {
	for _, x := range []struct {
		c     change
		loose int
		want  stand
	}{
		{add(0, "ab"), 1, stand{[2]string{"ab", ""}, 0}},
		{add(1, "ab"), 1, stand{[2]string{"", "ab"}, 0}},
		{add(0, ""), 1, stand{}},
		{add(1, ""), 1, stand{}},
		{wipe(0), 1, stand{}},
		{wipe(1), 1, stand{}},
		{front(0), 1, stand{}},
		{front(1), 1, stand{front: 1}},
		{sync, 0, stand{}},
	} {
		wantUp(t, fmt.Sprint(x.c), run(t, x.c), x.loose, x.want)
	}
}

func TestP7_1RowsWrittenOut(t *testing.T) {
	for _, x := range []struct {
		row   []change
		loose int
		want  stand
	}{
		{[]change{add(0, "ab"), sync, add(0, "cd"), front(1)}, 2, stand{[2]string{"abcd", ""}, 1}},
		{[]change{add(0, "a"), add(0, "b"), add(0, "c")}, 3, stand{[2]string{"abc", ""}, 0}},
		{[]change{add(0, "a"), add(1, "b"), add(0, "c"), add(1, "d")}, 4, stand{[2]string{"ac", "bd"}, 0}},
		{[]change{add(0, "a"), wipe(0), add(0, "b")}, 3, stand{[2]string{"b", ""}, 0}},
		{[]change{add(1, "a"), wipe(1), add(1, "b"), wipe(0)}, 4, stand{[2]string{"", "b"}, 0}},
		{[]change{front(1), front(0)}, 2, stand{}},
		{[]change{front(1), front(1)}, 2, stand{front: 1}},
		{[]change{front(1), add(0, "a"), wipe(1)}, 3, stand{[2]string{"a", ""}, 1}},
		{[]change{front(1), sync, front(0), sync, front(1)}, 1, stand{front: 1}},
		{[]change{sync, sync}, 0, stand{}},
		{[]change{add(0, "ab"), sync, wipe(0), sync}, 0, stand{}},
		{[]change{add(1, "new"), sync, front(1), sync, wipe(0), add(0, "x")}, 2, stand{[2]string{"x", "new"}, 1}},
		{[]change{add(0, "ab"), add(0, "cd"), sync, add(0, ""), add(0, "ef")}, 2, stand{[2]string{"abcdef", ""}, 0}},
	} {
		wantUp(t, fmt.Sprint(x.row), run(t, x.row...), x.loose, x.want)
	}
}

// TestP7_1AllRows looks ahead of each change and behind it.
func TestP7_1AllRows(t *testing.T) {
	rows(eachChange(), 4, func(row []change) {
		d, m := disk.New(), newModel()
		wantAs(t, "ahead", d, m)
		for _, c := range row {
			if e := c.on(d); e != m.do(c) {
				t.Fatalf("%v: %v answers the error %d", row, c, e)
			}
			wantAs(t, fmt.Sprint(row), d, m)
		}
	})
}

func TestP7_1EachByteAppended(t *testing.T) {
	for area := range 2 {
		d := disk.New()
		var want stand
		for i := range 256 {
			b := string([]byte{byte(i)})
			want.areas[area] += b
			more(t, d, add(area, b))
			wantUp(t, fmt.Sprint(i), d, i+1, want)
		}
		more(t, d, sync)
		wantUp(t, "synced", d, 0, want)
	}
}

func TestP7_1NoBytesAppended(t *testing.T) {
	d := disk.New()
	for i, b := range [][]byte{nil, {}, make([]byte, 0, 9), []byte("abc")[3:], []byte("abc")[:0]} {
		if e := d.Append(1, b); e != api.OK {
			t.Errorf("%d: no bytes: the error %d", i, e)
		}
		wantUp(t, "no bytes", d, i+1, stand{})
	}
}

func TestP7_1ManyBytes(t *testing.T) {
	d := disk.New()
	var want stand
	for i, n := range []int{1, 4095, 4096, 4097, 1 << 16, 1<<20 + 3, 0, 7} {
		b := string(pattern(n))
		more(t, d, add(1, b), add(0, "x"))
		want.areas[1] += b
		want.areas[0] += "x"
		wantUp(t, fmt.Sprint(n), d, 2*i+2, want)
	}
	more(t, d, sync, wipe(1), add(1, "y"))
	want.areas[1] = "y"
	wantUp(t, "wiped", d, 2, want)
}

func TestP7_1ManyChangesAreLoose(t *testing.T) {
	d := disk.New()
	for i := range 20000 {
		more(t, d, add(i%2, string([]byte{byte(i / 2)})))
		if n := d.Loose(); n != i+1 {
			t.Fatalf("%d changes are loose, not %d", n, i+1)
		}
	}
	half := string(bytes.Repeat(bytesUp(), 40)[:10000])
	wantUp(t, "many changes", d, 20000, stand{[2]string{half, half}, 0})
	more(t, d, sync)
	wantUp(t, "synced", d, 0, stand{[2]string{half, half}, 0})
}

// bytesUp is the bytes from 0 to 255.
func bytesUp() []byte {
	var b []byte
	for i := range 256 {
		b = append(b, byte(i))
	}
	return b
}

func TestP7_1AskedAgainTheSame(t *testing.T) {
	d := run(t, add(0, "ab"), sync, add(1, "cd"), front(1))
	for range 5 {
		wantUp(t, "asked again", d, 2, stand{[2]string{"ab", "cd"}, 1})
	}
}

// askArea asks of each call that takes an area for the error; it tells the calls' names of those that answer another one.
func askArea(d *disk.Disk, area int, want api.Errno) []string {
	var wrong []string
	b, e := d.Read(area)
	for name, got := range map[string]api.Errno{
		"Append": d.Append(area, []byte("x")), "Append of nothing": d.Append(area, nil), "Wipe": d.Wipe(area), "Front": d.Front(area), "Read": e,
	} {
		if got != want {
			wrong = append(wrong, fmt.Sprint(name, " ", got))
		}
	}
	if len(b) != 0 {
		wrong = append(wrong, "Read tells bytes")
	}
	slices.Sort(wrong)
	return wrong
}

func TestP7_1WrongAreas(t *testing.T) {
	for _, ahead := range [][]change{nil, {add(0, "ab"), add(1, "cd"), front(1)}, {add(0, "ab"), add(1, "cd"), sync}, {add(0, "ab"), sync, add(1, "cd"), front(1)}} {
		for _, area := range wrongAreas {
			d, m := run(t, ahead...), modelOf(ahead...)
			if wrong := askArea(d, area, api.ErrArg); wrong != nil {
				t.Errorf("area %d, up: not ErrArg: %v", area, wrong)
			}
			wantAs(t, fmt.Sprintf("%v, behind area %d", ahead, area), d, m)
			d.Crash(math.MaxInt, math.MaxInt)
			m.crash(math.MaxInt, math.MaxInt)
			wantAs(t, fmt.Sprintf("%v, behind area %d and a crash", ahead, area), d, m)
		}
	}
}

// TestP7_1WrongAreasWhileItIsDown: ErrArg is named ahead of ErrDown.
func TestP7_1WrongAreasWhileItIsDown(t *testing.T) {
	for _, area := range append(slices.Clone(wrongAreas), 0, 1) {
		want := api.ErrArg
		if area == 0 || area == 1 {
			want = api.ErrDown
		}
		d := run(t, add(0, "ab"), sync, add(1, "cd"), front(1))
		d.Arm(0)
		if wrong := askArea(d, area, want); wrong != nil {
			t.Errorf("area %d, down: not the error %d: %v", area, want, wrong)
		}
		wantDown(t, fmt.Sprint("behind area ", area), d, 2)
		d.Crash(math.MaxInt, math.MaxInt)
		wantUp(t, fmt.Sprint("behind area ", area, " and a crash"), d, 0, stand{[2]string{"ab", "cd"}, 1})
	}
}

func TestP7_1DownNothingIsDone(t *testing.T) {
	for _, ahead := range [][]change{nil, {add(0, "ab"), add(1, "cd"), front(1)}, {add(0, "ab"), add(1, "cd"), sync}, {add(0, "ab"), sync, add(1, "cd"), front(1)}} {
		for _, c := range eachChange() {
			for _, keep := range []int{0, 1, math.MaxInt} {
				d, m := run(t, ahead...), modelOf(ahead...)
				d.Arm(0)
				m.arm(0)
				for range 3 {
					if e := c.on(d); e != api.ErrDown {
						t.Errorf("%v, down: %v answers the error %d", ahead, c, e)
					}
					wantDown(t, fmt.Sprint(ahead, c), d, len(m.loose))
				}
				d.Crash(keep, math.MaxInt)
				m.crash(keep, math.MaxInt)
				wantAs(t, fmt.Sprint(ahead, c, " and a crash"), d, m)
			}
		}
	}
}

// P7.2: Arm, Down.

func TestP7_2ArmCountsEachChange(t *testing.T) {
	for _, ahead := range [][]change{nil, {add(0, "ab"), add(1, "cd"), front(1)}, {add(0, "ab"), sync}} {
		for _, c := range eachChange() {
			for n := range 6 {
				d, m := run(t, ahead...), modelOf(ahead...)
				d.Arm(n)
				for i := range n {
					if d.Down() {
						t.Fatalf("%v: down behind %d of %d", c, i, n)
					}
					more(t, d, c)
					m.do(c)
				}
				m.arm(0)
				wantAs(t, fmt.Sprint(ahead, n, " times ", c), d, m)
				if e := c.on(d); e != api.ErrDown {
					t.Errorf("%v: one more than %d answers the error %d", c, n, e)
				}
				wantAs(t, fmt.Sprint(ahead, n, " times ", c, " and once more"), d, m)
			}
		}
	}
}

// TestP7_2ArmAllRows has the power go at each change of a row.
func TestP7_2ArmAllRows(t *testing.T) {
	rows(eachChange(), 3, func(row []change) {
		for at := range len(row) + 1 {
			for _, n := range []int{-1, 0, 1, 2, 3, 4} {
				d, m := disk.New(), newModel()
				for i := range len(row) + 1 {
					if i == at {
						d.Arm(n)
						m.arm(n)
						wantAs(t, fmt.Sprint(row, " armed"), d, m)
					}
					if i == len(row) {
						break
					}
					if got, want := row[i].on(d), m.do(row[i]); got != want {
						t.Fatalf("%v: armed with %d ahead of %d: %d answers the error %d, not %d", row, n, at, i, got, want)
					}
					wantAs(t, fmt.Sprint(row, " armed"), d, m)
				}
			}
		}
	})
}

func TestP7_2ArmWithNothingAtOnce(t *testing.T) {
	d := disk.New()
	d.Arm(0)
	wantDown(t, "a new disk", d, 0)
	d = run(t, add(0, "ab"), sync, front(1), add(1, "x"))
	d.Arm(0)
	wantDown(t, "with loose changes", d, 2)
	d.Crash(1, 0)
	wantUp(t, "behind a crash", d, 0, stand{[2]string{"ab", ""}, 1})
}

func TestP7_2ArmOne(t *testing.T) {
	for _, c := range eachChange() {
		d := disk.New()
		d.Arm(1)
		wantUp(t, "armed", d, 0, stand{})
		more(t, d, c)
		if !d.Down() {
			t.Errorf("%v is one change, and it is up", c)
		}
	}
}

// TestP7_2WhatIsNoChangeDoesNotCount: what is asked for, and what is refused.
func TestP7_2WhatIsNoChangeDoesNotCount(t *testing.T) {
	for n := 1; n < 4; n++ {
		d := run(t, add(0, "ab"))
		d.Arm(n)
		for i := range n {
			for range 5 {
				wantUp(t, "armed", d, 1+i, stand{[2]string{"ab", strings.Repeat("x", i)}, 0})
				for _, area := range wrongAreas {
					if wrong := askArea(d, area, api.ErrArg); wrong != nil {
						t.Fatalf("area %d: not ErrArg: %v", area, wrong)
					}
				}
				d.Clone()
			}
			more(t, d, add(1, "x"))
		}
		wantDown(t, "all is counted", d, 1+n)
	}
}

func TestP7_2ArmBelowNought(t *testing.T) {
	for _, n := range []int{-1, -2, -100, math.MinInt32, math.MinInt + 1, math.MinInt} {
		for _, armed := range [][]int{nil, {-1}, {1}, {2}, {100}, {math.MaxInt}, {3, 1}} {
			d := disk.New()
			for _, k := range armed {
				d.Arm(k)
			}
			d.Arm(n)
			want := ""
			for i := range 200 {
				wantUp(t, fmt.Sprint("armed with ", armed, " and ", n), d, i, stand{[2]string{want, ""}, 0})
				more(t, d, add(0, "x"))
				want += "x"
			}
		}
	}
}

func TestP7_2ArmOnceMore(t *testing.T) {
	for first := 1; first < 5; first++ {
		for done := range first {
			for _, again := range []int{0, 1, 2, 3, 7} {
				d := disk.New()
				d.Arm(first)
				for range done {
					more(t, d, front(1))
				}
				d.Arm(again)
				for i := range again {
					if d.Down() {
						t.Fatalf("armed with %d, %d done, armed with %d: down behind %d", first, done, again, i)
					}
					more(t, d, front(1))
				}
				wantDown(t, fmt.Sprintf("armed with %d, %d done, armed with %d", first, done, again), d, done+again)
			}
		}
	}
}

func TestP7_2ArmWhileItIsDown(t *testing.T) {
	for _, n := range ends(3) {
		for _, armed := range []int{0, 1} {
			d := disk.New()
			d.Arm(armed)
			if armed == 1 {
				more(t, d, add(0, "ab"))
			}
			for range 2 {
				d.Arm(n)
				wantDown(t, fmt.Sprint("down, and armed with ", n), d, armed)
				if e := d.Sync(); e != api.ErrDown {
					t.Errorf("down, and armed with %d: Sync answers the error %d", n, e)
				}
			}
			d.Crash(0, 0)
			for i := range 10 {
				wantUp(t, fmt.Sprint("down, armed with ", n, ", crashed"), d, i, stand{})
				more(t, d, wipe(1))
			}
		}
	}
}

func TestP7_2ArmWithMuch(t *testing.T) {
	for _, n := range []int{1000, 1001, 1 << 16, math.MaxInt32, 1 << 31, 1<<32 - 1, 1 << 32, 1<<32 + 1, 1<<32 + 999, 1 << 62, math.MaxInt - 1, math.MaxInt} {
		d := disk.New()
		d.Arm(n)
		for range 1000 {
			if e := d.Append(0, nil); e != api.OK {
				t.Fatalf("armed with %d: the error %d", n, e)
			}
		}
		if d.Down() != (n == 1000) || d.Loose() != 1000 {
			t.Errorf("armed with %d, 1000 done: down: %v, %d loose", n, d.Down(), d.Loose())
		}
	}
}

func TestP7_2NeverArmedNeverDown(t *testing.T) {
	d := disk.New()
	for i := range 5000 {
		more(t, d, eachChange()[i%9])
		if d.Down() {
			t.Fatalf("down behind %d changes", i+1)
		}
	}
}

func TestP7_2WhatIsArmedStaysAsItIs(t *testing.T) {
	d := run(t, add(0, "ab"), sync, add(1, "cd"))
	d.Arm(2)
	wantUp(t, "armed", d, 1, stand{[2]string{"ab", "cd"}, 0})
	more(t, d, front(1), sync)
	wantDown(t, "down", d, 0)
	d.Crash(0, 0)
	wantUp(t, "the last change is done", d, 0, stand{[2]string{"ab", "cd"}, 1})
}
