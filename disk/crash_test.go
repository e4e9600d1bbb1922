package disk_test

import (
	"fmt"
	"math"
	"testing"

	"lockgate/api"
	"lockgate/disk"
)

// P7.3: Crash.

func TestP7_3Examples(t *testing.T) {
	row := []change{add(0, "ab"), sync, add(0, "cd"), front(1)}
	d := run(t, row...)
	d.Crash(1, 0)
	wantUp(t, "Crash(1, 0)", d, 0, stand{[2]string{"abcd", ""}, 0})
	d = run(t, row...)
	d.Crash(0, 1)
	wantUp(t, "Crash(0, 1)", d, 0, stand{[2]string{"abc", ""}, 0})
}

func TestP7_3WrittenOut(t *testing.T) {
	synced := []change{add(0, "one"), add(1, "two"), front(1), sync}
	for _, x := range []struct {
		behind     []change
		keep, torn int
		want       stand
	}{
		{nil, 0, 0, stand{[2]string{"one", "two"}, 1}},
		{nil, math.MaxInt, math.MaxInt, stand{[2]string{"one", "two"}, 1}},
		{nil, math.MinInt, math.MinInt, stand{[2]string{"one", "two"}, 1}},

		{[]change{add(1, "abc")}, -1, -1, stand{[2]string{"one", "two"}, 1}},
		{[]change{add(1, "abc")}, 0, 0, stand{[2]string{"one", "two"}, 1}},
		{[]change{add(1, "abc")}, 0, 1, stand{[2]string{"one", "twoa"}, 1}},
		{[]change{add(1, "abc")}, 0, 2, stand{[2]string{"one", "twoab"}, 1}},
		{[]change{add(1, "abc")}, 0, 3, stand{[2]string{"one", "twoabc"}, 1}},
		{[]change{add(1, "abc")}, 0, 4, stand{[2]string{"one", "twoabc"}, 1}},
		{[]change{add(1, "abc")}, 1, 0, stand{[2]string{"one", "twoabc"}, 1}},
		{[]change{add(1, "abc")}, 1, 2, stand{[2]string{"one", "twoabc"}, 1}},
		{[]change{add(1, "abc")}, 2, 0, stand{[2]string{"one", "twoabc"}, 1}},
		{[]change{add(1, "abc")}, -5, 1, stand{[2]string{"one", "twoa"}, 1}},

		{[]change{wipe(0), add(0, "abc")}, 0, 9, stand{[2]string{"one", "two"}, 1}},
		{[]change{wipe(0), add(0, "abc")}, 1, 0, stand{[2]string{"", "two"}, 1}},
		{[]change{wipe(0), add(0, "abc")}, 1, 2, stand{[2]string{"ab", "two"}, 1}},
		{[]change{wipe(0), add(0, "abc")}, 2, 0, stand{[2]string{"abc", "two"}, 1}},

		{[]change{front(0), add(0, "abc")}, 0, 9, stand{[2]string{"one", "two"}, 1}},
		{[]change{front(0), add(0, "abc")}, 1, 1, stand{[2]string{"onea", "two"}, 0}},

		// Of the change behind the torn one nothing is there, whichever it is.
		{[]change{add(0, "ab"), add(0, "cd")}, 0, 9, stand{[2]string{"oneab", "two"}, 1}},
		{[]change{add(0, "ab"), add(1, "cd")}, 0, 9, stand{[2]string{"oneab", "two"}, 1}},
		{[]change{add(0, "ab"), wipe(0)}, 0, 9, stand{[2]string{"oneab", "two"}, 1}},
		{[]change{add(0, "ab"), front(0)}, 0, 9, stand{[2]string{"oneab", "two"}, 1}},
		{[]change{add(0, ""), add(0, "cd")}, 0, 9, stand{[2]string{"one", "two"}, 1}},

		// In their order.
		{[]change{add(0, "ab"), wipe(0), add(0, "cd"), front(0), front(1)}, 5, 0, stand{[2]string{"cd", "two"}, 1}},
		{[]change{add(0, "ab"), wipe(0), add(0, "cd"), front(0), front(1)}, 4, 0, stand{[2]string{"cd", "two"}, 0}},
		{[]change{add(0, "ab"), wipe(0), add(0, "cd"), front(0), front(1)}, 3, 0, stand{[2]string{"cd", "two"}, 1}},
		{[]change{add(0, "ab"), wipe(0), add(0, "cd"), front(0), front(1)}, 2, 0, stand{[2]string{"", "two"}, 1}},
		{[]change{add(0, "ab"), wipe(0), add(0, "cd"), front(0), front(1)}, 1, 0, stand{[2]string{"oneab", "two"}, 1}},
	} {
		d := run(t, append(append([]change{}, synced...), x.behind...)...)
		d.Crash(x.keep, x.torn)
		wantUp(t, fmt.Sprint(x.behind, " Crash ", x.keep, " ", x.torn), d, 0, x.want)
	}
}

// TestP7_3AllRows: at each of them a crash with each keep and torn, up and down.
func TestP7_3AllRows(t *testing.T) {
	rows(fewChanges(), 4, func(row []change) {
		loose := len(modelOf(row...).loose)
		for keep := -1; keep <= loose+1; keep++ {
			for torn := -1; torn <= 4; torn++ {
				for _, down := range []bool{false, true} {
					d, m := run(t, row...), modelOf(row...)
					if down {
						d.Arm(0)
					}
					d.Crash(keep, torn)
					m.crash(keep, torn)
					wantAs(t, fmt.Sprint(row, " Crash ", keep, " ", torn, " down: ", down), d, m)
				}
			}
		}
	})
}

// TestP7_3EachNextChange has each kind of change as the one that is cut off, with all ends of keep and torn.
func TestP7_3EachNextChange(t *testing.T) {
	for _, next := range []change{add(0, "wxyz"), add(1, "wxyz"), add(0, ""), wipe(0), wipe(1), front(0), front(1)} {
		row := []change{add(0, "one"), sync, add(1, "ab"), front(1), next, add(0, "uvw"), front(0), wipe(1)}
		for _, keep := range ends(len(row)) {
			for _, torn := range ends(4) {
				d, m := run(t, row...), modelOf(row...)
				d.Crash(keep, torn)
				m.crash(keep, torn)
				wantAs(t, fmt.Sprint(row, " Crash ", keep, " ", torn), d, m)
			}
		}
	}
}

func TestP7_3NextIsNoBytes(t *testing.T) {
	for _, torn := range ends(3) {
		for _, c := range []change{wipe(0), wipe(1), front(0), front(1), add(0, ""), add(1, "")} {
			d := run(t, add(0, "one"), add(1, "two"), front(1), sync, c, add(0, "abc"), add(1, "def"))
			d.Crash(0, torn)
			wantUp(t, fmt.Sprint(c, " ", torn), d, 0, stand{[2]string{"one", "two"}, 1})
		}
	}
}

func TestP7_3TornAtEachByte(t *testing.T) {
	b := string(pattern(5000))
	for n := range len(b) + 2 {
		d := run(t, add(1, "one"), sync, add(0, "x"), add(1, b), add(1, "y"))
		d.Crash(1, n)
		wantUp(t, fmt.Sprint("torn behind ", n), d, 0, stand{[2]string{"x", "one" + b[:min(n, len(b))]}, 0})
	}
}

func TestP7_3ManyChangesAreLoose(t *testing.T) {
	const many = 3000
	for _, keep := range []int{0, 1, 2, 1499, 1500, 1501, many - 1, many, many + 1, math.MaxInt} {
		d := disk.New()
		want := ""
		for i := range many {
			b := string([]byte{byte(i), byte(i / 256)})
			more(t, d, add(0, b))
			if i < keep {
				want += b
			} else if i == keep {
				want += b[:1]
			}
		}
		d.Crash(keep, 1)
		wantUp(t, fmt.Sprint("keep ", keep), d, 0, stand{[2]string{want, ""}, 0})
	}
}

func TestP7_3CrashOfANewDisk(t *testing.T) {
	for _, keep := range ends(1) {
		for _, torn := range ends(1) {
			d := disk.New()
			d.Crash(keep, torn)
			wantUp(t, fmt.Sprint(keep, " ", torn), d, 0, stand{})
		}
	}
}

// TestP7_3CrashWhileItIsDown: what was loose as the power went is what a crash may keep.
func TestP7_3CrashWhileItIsDown(t *testing.T) {
	for _, keep := range ends(3) {
		for _, torn := range ends(3) {
			d, m := run(t, add(0, "ab"), sync), modelOf(add(0, "ab"), sync)
			d.Arm(2)
			for _, c := range []change{front(1), add(0, "cd"), add(0, "ef"), sync, wipe(0)} {
				c.on(d)
			}
			m.do(front(1))
			m.do(add(0, "cd"))
			wantDown(t, "ahead", d, 2)
			d.Crash(keep, torn)
			m.crash(keep, torn)
			wantAs(t, fmt.Sprint("Crash ", keep, " ", torn), d, m)
		}
	}
}

func TestP7_3NotArmedBehindACrash(t *testing.T) {
	for _, n := range []int{0, 1, 2, 3, 10, math.MaxInt} {
		for done := range min(n, 3) + 1 {
			d := disk.New()
			d.Arm(n)
			for range done {
				more(t, d, sync)
			}
			if d.Down() != (done == n) {
				t.Fatalf("armed with %d, %d done: down: %v", n, done, d.Down())
			}
			d.Crash(0, 0)
			for i := range 30 {
				wantUp(t, fmt.Sprintf("armed with %d, %d done, crashed", n, done), d, i, stand{})
				more(t, d, front(0))
			}
		}
	}
}

func TestP7_3ArmedAnewBehindACrash(t *testing.T) {
	for n := range 4 {
		d := disk.New()
		d.Arm(5)
		more(t, d, add(0, "a"))
		d.Crash(1, 0)
		d.Arm(n)
		for i := range n {
			wantUp(t, "armed anew", d, i, stand{[2]string{"a", ""}, 0})
			more(t, d, front(0))
		}
		wantDown(t, "armed anew", d, n)
	}
}

// TestP7_3NothingIsLooseBehindACrash: a second crash neither takes nor gives anything.
func TestP7_3NothingIsLooseBehindACrash(t *testing.T) {
	row := []change{add(0, "ab"), sync, add(0, "cd"), front(1), add(1, "efg"), wipe(0)}
	for keep := range 5 {
		for torn := range 4 {
			for _, again := range [][2]int{{0, 0}, {math.MaxInt, math.MaxInt}, {-1, -1}, {1, 1}} {
				d, m := run(t, row...), modelOf(row...)
				d.Crash(keep, torn)
				m.crash(keep, torn)
				wantAs(t, "once", d, m)
				d.Crash(again[0], again[1])
				wantAs(t, fmt.Sprint("Crash ", keep, " ", torn, ", ", again), d, m)
			}
		}
	}
}

// TestP7_3ItGoesOnBehindACrash: what comes then is loose over what is lasting.
func TestP7_3ItGoesOnBehindACrash(t *testing.T) {
	ahead := []change{add(0, "ab"), sync, add(0, "cd"), front(1), add(1, "efg"), wipe(0)}
	for keep := range 5 {
		for torn := range 3 {
			rows(fewChanges(), 2, func(row []change) {
				for again := range 3 {
					d, m := run(t, ahead...), modelOf(ahead...)
					d.Crash(keep, torn)
					m.crash(keep, torn)
					for _, c := range row {
						more(t, d, c)
						m.do(c)
						wantAs(t, fmt.Sprint(keep, torn, row), d, m)
					}
					d.Crash(again, 1)
					m.crash(again, 1)
					wantAs(t, fmt.Sprint(keep, torn, row, again), d, m)
				}
			})
		}
	}
}

// P7.5: what was synced stays.

// reached has all that may stand behind changes that came on the stand, cut off anywhere.
func reached(s stand, behind []change) map[stand]bool {
	all := map[stand]bool{s: true}
	for _, c := range behind {
		if c.name == "append" {
			for n := range c.text {
				torn := c
				torn.text = c.text[:n]
				all[torn.over(s)] = true
			}
		}
		s = c.over(s)
		all[s] = true
	}
	return all
}

// TestP7_5WhatWasSyncedStays: behind a sync nothing but what was done since is to be seen, and with nothing kept nothing of that.
func TestP7_5WhatWasSyncedStays(t *testing.T) {
	rows(fewChanges(), 3, func(ahead []change) {
		s := modelOf(ahead...).now()
		rows([]change{add(0, "ab"), add(1, "cde"), wipe(0), wipe(1), front(0), front(1)}, 2, func(behind []change) {
			all := reached(s, behind)
			for keep := -1; keep <= len(behind)+1; keep++ {
				for torn := -1; torn <= 4; torn++ {
					d := run(t, ahead...)
					more(t, d, sync)
					more(t, d, behind...)
					d.Crash(keep, torn)
					got := told(t, "behind", d)
					if !all[got] || keep <= 0 && torn <= 0 && got != s {
						t.Fatalf("%v, sync, %v, Crash %d %d: %v", ahead, behind, keep, torn, got)
					}
				}
			}
		})
	})
}

// TestP7_5ThroughManyCrashes: with each sync more stays, whatever each crash takes of what came behind.
func TestP7_5ThroughManyCrashes(t *testing.T) {
	d := disk.New()
	var want stand
	for i := range 300 {
		c := add(i%2, fmt.Sprint("record ", i, ";"))
		more(t, d, c, sync, add(0, "lost"), wipe(1), front(1))
		want = c.over(want)
		if i%3 == 0 {
			d.Arm(0)
		}
		d.Crash(0, 0)
		wantUp(t, fmt.Sprint("crash ", i), d, 0, want)
	}
}

func TestP7_5SyncsInTheMidst(t *testing.T) {
	d := run(t, add(0, "a"), sync, add(0, "b"), sync, add(0, "c"))
	d.Crash(0, 0)
	wantUp(t, "two syncs", d, 0, stand{[2]string{"ab", ""}, 0})
	d = run(t, add(0, "a"), sync, wipe(0), front(1), sync, add(0, "c"))
	d.Crash(0, 0)
	wantUp(t, "a wipe is lasting too", d, 0, stand{front: 1})
	d = run(t, add(0, "a"), sync, wipe(0), front(1))
	d.Crash(0, 9)
	wantUp(t, "a loose wipe isn't", d, 0, stand{[2]string{"a", ""}, 0})
}

// TestP7_5SyncThatIsRefused syncs nothing.
func TestP7_5SyncThatIsRefused(t *testing.T) {
	d := run(t, add(0, "a"), sync)
	d.Arm(1)
	more(t, d, add(0, "b"))
	if e := d.Sync(); e != api.ErrDown {
		t.Fatalf("down: Sync answers the error %d", e)
	}
	d.Crash(0, 0)
	wantUp(t, "a sync that was refused", d, 0, stand{[2]string{"a", ""}, 0})
}
