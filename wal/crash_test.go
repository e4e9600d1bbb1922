package wal_test

import (
	"fmt"
	"math"
	"slices"
	"testing"

	"lockgate/api"
	"lockgate/disk"
	"lockgate/wal"
)

// P8.3: what is there behind a crash.

// grip is what a crash may leave of a log.
type grip struct {
	m     *model
	saved bool // whether a Save was cut off
	save  string
}

// holds: is it what may be there?
func (g grip) holds(picture []byte, recs [][]byte) bool {
	l := texts(recs)
	if g.saved && string(picture) == g.save && len(l) == 0 {
		return true
	}
	return string(picture) == g.m.picture && len(l) >= g.m.safe && len(l) <= len(g.m.recs) && slices.Equal(l, g.m.recs[:len(l)])
}

// cutOff does the calls of a row, of which the power cuts one off, or none.
func (p *pair) cutOff(t *testing.T, row []call) grip {
	t.Helper()
	for _, c := range row {
		if got, _ := p.on(t, c); got != api.OK {
			return grip{p.m, c.name == "save", c.text}
		}
		p.m.do(c)
	}
	return grip{m: p.m}
}

// torns has where a change that is cut off is worth a look: at each byte of what a short call appends, and the ends.
func torns() []int {
	l := []int{math.MinInt, -1}
	for n := range 45 {
		l = append(l, n)
	}
	return append(l, math.MaxInt)
}

func (g grip) wantAfterCrash(t *testing.T, name string, d *disk.Disk, keep, torn int) {
	t.Helper()
	d.Crash(keep, torn)
	l, picture, recs, e := wal.Open(d)
	if e != api.OK || !g.holds(picture, recs) {
		t.Fatalf("%s, Crash(%d, %d): %d, %q, %q, which isn't of %q, %q, %d safe", name, keep, torn, e, picture, recs, g.m.picture, g.m.recs, g.m.safe)
	}
	s := stood(t, name, d)
	m := &model{empty: s.areas[s.front] == "", front: s.front, picture: string(picture), recs: texts(recs)}
	if s.areas[s.front] != m.stands() || l.Size() != len(m.stands()) {
		t.Fatalf("%s, Crash(%d, %d): %v stands, and Size tells %d, of %q, %q", name, keep, torn, s, l.Size(), picture, recs)
	}
	if e := l.Add([]byte("new")); e != api.OK {
		t.Fatalf("%s, Crash(%d, %d): Add answers the error %d", name, keep, torn, e)
	}
	m.do(call{"add", "new"})
	wantOpens(t, name+", added to", d, m)
}

func TestP8_3EachCrash(t *testing.T) {
	rows(fewCalls(), 3, func(row []call) {
		for n := -1; n <= 5*len(row); n++ {
			p := started(t)
			p.d.Arm(n)
			g := p.cutOff(t, row)
			for keep := range p.d.Loose() + 1 {
				for _, torn := range torns() {
					g.wantAfterCrash(t, fmt.Sprint(row, ", armed with ", n), p.d.Clone(), keep, torn)
				}
			}
		}
	})
}

func TestP8_3EachCrashOfEachBeginning(t *testing.T) {
	for _, x := range beginnings() {
		rows(fewCalls(), 2, func(row []call) {
			for n := -1; n <= 5*len(row); n++ {
				p := opened(t, x.m, x.row...)
				p.d.Arm(n)
				g := p.cutOff(t, row)
				for keep := range p.d.Loose() + 1 {
					for _, torn := range []int{-1, 0, 1, 11, 12, 13, 14, 26, 40, math.MaxInt} {
						g.wantAfterCrash(t, fmt.Sprint(x.name, row, ", armed with ", n), p.d.Clone(), keep, torn)
					}
				}
			}
		})
	}
}

func TestP8_3EndsOfKeepAndTorn(t *testing.T) {
	ends := []int{math.MinInt, math.MinInt + 1, -2, -1, 0, 1, 2, 3, 12, 13, 100, 1 << 32, math.MaxInt - 1, math.MaxInt}
	for _, row := range [][]call{
		nil,
		{{"add", "a"}},
		{{"add", "a"}, {"flush", ""}, {"add", "b"}, {"add", "c"}},
		{{"save", "pic"}, {"add", "a"}, {"add", ""}, {"add", "b"}},
		{{"save", "pic"}, {"add", "a"}, {"open", ""}, {"add", "b"}, {"save", "all"}},
	} {
		for n := -1; n < 20; n++ {
			p := started(t)
			p.d.Arm(n)
			g := p.cutOff(t, row)
			for _, keep := range ends {
				for _, torn := range ends {
					g.wantAfterCrash(t, fmt.Sprint(row, ", armed with ", n), p.d.Clone(), keep, torn)
				}
			}
		}
	}
}

// TestP8_3KeepTellsHowMany: a crash takes no more than what it doesn't keep.
func TestP8_3KeepTellsHowMany(t *testing.T) {
	recs := []string{"a", "", "bcd", "ef", ""}
	for safe := range len(recs) + 1 {
		for keep := range len(recs) - safe + 2 {
			for _, torn := range torns() {
				p := started(t)
				for i, rec := range recs {
					if i == safe {
						p.do(t, call{"flush", ""})
					}
					p.do(t, call{"add", rec})
				}
				if safe == len(recs) {
					p.do(t, call{"flush", ""})
				}
				p.d.Crash(keep, torn)
				there := min(safe+keep, len(recs))
				if there < len(recs) && torn >= len(framed(recs[there])) && (there > 0 || torn >= len(framed("", recs[0]))) {
					there++
				}
				m := &model{recs: recs[:there], empty: there == 0 && torn <= 0}
				wantOpens(t, fmt.Sprintf("%d safe, Crash(%d, %d)", safe, keep, torn), p.d, m)
			}
		}
	}
}

// TestP8_3SaveIsAllOrNothing: a Save that is cut off ahead of the front's change leaves all records, and what isn't kept of it comes to nothing.
func TestP8_3SaveIsAllOrNothing(t *testing.T) {
	for n := range 6 {
		for keep := -1; keep < 5; keep++ {
			for _, torn := range torns() {
				p := started(t)
				p.doAll(t, []call{{"save", "pic"}, {"add", "a"}, {"flush", ""}, {"add", "b"}, {"add", "c"}})
				p.d.Arm(n)
				if e := p.l.Save([]byte("all")); (e == api.OK) != (n == 5) {
					t.Fatalf("armed with %d: Save answers the error %d", n, e)
				}
				p.d.Crash(keep, torn)
				m := &model{picture: "pic", recs: []string{"a", "b", "c"}}
				if n == 5 || n == 4 && keep > 0 {
					m = &model{picture: "all"}
				} else if n < 3 { // no sync of the Save came behind the loose records
					there := 1 + min(max(keep, 0), 2)
					if there < 3 && torn >= head+1 {
						there++
					}
					m.recs = m.recs[:there]
				}
				wantOpens(t, fmt.Sprintf("armed with %d, Crash(%d, %d)", n, keep, torn), p.d, m)
			}
		}
	}
}

// TestP8_3OpenIsCutOff: an Open behind a crash is cut off itself, at each change, and once more; nothing of what was lasting goes.
func TestP8_3OpenIsCutOff(t *testing.T) {
	rows([]call{{"add", "ab"}, {"flush", ""}, {"save", "all"}}, 2, func(row []call) {
		for n := -1; n <= 5*len(row); n++ {
			p := started(t)
			p.d.Arm(n)
			p.cutOff(t, row)
			for _, torn := range []int{0, 5, 12, 30} {
				d := p.d.Clone()
				d.Crash(1, torn)
				_, picture, recs, e := wal.Open(d.Clone())
				if e != api.OK {
					t.Fatalf("%v: Open answers the error %d", row, e)
				}
				wantCutOff(t, fmt.Sprint(row, ", armed with ", n, ", torn at ", torn), d, string(picture), texts(recs), 2)
			}
		}
	})
}

// wantCutOff cuts an Open off at each change, so many times one behind the other, with each crash, and asks that the log is still there.
func wantCutOff(t *testing.T, name string, d *disk.Disk, picture string, recs []string, times int) {
	t.Helper()
	_, p, r, e := wal.Open(d.Clone())
	if e != api.OK || string(p) != picture || !slices.Equal(texts(r), recs) {
		t.Fatalf("%s: %d, %q, %q, not %q, %q", name, e, p, r, picture, recs)
	}
	if times == 0 {
		return
	}
	for n := range 5 {
		c := d.Clone()
		c.Arm(n)
		if l, p, r, e := wal.Open(c); e == api.ErrDown {
			wantNothing(t, name, l, p, r)
		} else if c.Loose() != 0 || c.Down() != (n == 0) {
			t.Fatalf("%s, armed with %d: Open answers the error %d", name, n, e)
		}
		for keep := range c.Loose() + 1 {
			for _, torn := range []int{0, 7, math.MaxInt} {
				again := c.Clone()
				again.Crash(keep, torn)
				wantCutOff(t, fmt.Sprintf("%s, cut off at %d, Crash(%d, %d)", name, n, keep, torn), again, picture, recs, times-1)
			}
		}
	}
}

// TestP8_3OpenWithLooseRecordsIsCutOff: those that weren't safe may go, but no others, and only the last ones.
func TestP8_3OpenWithLooseRecordsIsCutOff(t *testing.T) {
	for n := range 7 {
		p := started(t)
		p.doAll(t, []call{{"save", "pic"}, {"add", "a"}, {"flush", ""}, {"add", "b"}, {"add", "c"}})
		p.d.Arm(n)
		g := p.cutOff(t, []call{{"open", ""}})
		for keep := -1; keep < 6; keep++ {
			for _, torn := range torns() {
				g.wantAfterCrash(t, fmt.Sprint("armed with ", n), p.d.Clone(), keep, torn)
			}
		}
	}
}

// TestP8_3OpenMakesLasting: what an Open that answered OK told, no crash takes.
func TestP8_3OpenMakesLasting(t *testing.T) {
	for _, x := range beginnings() {
		if x.m.empty {
			continue
		}
		p := opened(t, x.m, x.row...)
		p.d.Crash(0, 0)
		wantOpens(t, x.name, p.d, x.m)
	}
}
