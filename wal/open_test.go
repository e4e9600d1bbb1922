package wal_test

import (
	"bytes"
	"fmt"
	"slices"
	"testing"

	"lockgate/api"
	"lockgate/disk"
	"lockgate/wal"
)

// P8.1: Open.

// Frames written out.
const (
	emptyFrame = "\x00\x00\x00\x00\xf5\x13\xce\x9d\x7f\x76\x25\x4d"
	aFrame     = "\x01\x00\x00\x00\x7f\xdd\xdb\xa7\xae\x0d\x0d\xd8a"
	abFrame    = "\x02\x00\x00\x00\xa0\xe9\x93\x06\x60\xfd\x54\x92ab"
	helloFrame = "\x05\x00\x00\x00\x78\x29\xf4\x69\x29\xe6\x8b\x57hello"
)

func TestP8_1WrittenOut(t *testing.T) {
	for _, x := range []struct {
		stands  string
		picture string
		recs    []string
	}{
		{emptyFrame, "", nil},
		{aFrame, "a", nil},
		{emptyFrame + aFrame, "", []string{"a"}},
		{aFrame + emptyFrame, "a", []string{""}},
		{helloFrame + aFrame + abFrame, "hello", []string{"a", "ab"}},
		{helloFrame + abFrame + aFrame, "hello", []string{"ab", "a"}},
		{emptyFrame + emptyFrame + emptyFrame, "", []string{"", ""}},
		{abFrame + abFrame, "ab", []string{"ab"}},
	} {
		for area := range 2 {
			d := made(t, add(area, x.stands), front(area))
			name := fmt.Sprintf("%q in %d", x.stands, area)
			wantOpens(t, name, d, &model{front: area, picture: x.picture, recs: x.recs})
			want := stand{[2]string{x.stands, x.stands}, 1 - area}
			wantStands(t, name, d, 0, want)
			d.Crash(0, 0)
			wantStands(t, name+", crashed", d, 0, want)
		}
	}
}

// TestP8_1EmptyArea: no change is done, so nothing is loose that wasn't, and nothing that the disk is armed with is used up.
func TestP8_1EmptyArea(t *testing.T) {
	for _, x := range beginnings() {
		if !x.m.empty {
			continue
		}
		d := made(t, x.row...)
		wantOpens(t, x.name, d, x.m)
		wantSame(t, x.name, d, made(t, x.row...))
		for n := 1; n < 4; n++ {
			d, r := made(t, x.row...), made(t, x.row...)
			d.Arm(n)
			r.Arm(n)
			for range 3 {
				wantOpens(t, x.name, d, x.m)
				wantSame(t, x.name, d, r)
			}
			for i := range n {
				if d.Down() {
					t.Fatalf("%s, armed with %d: down behind %d changes", x.name, n, i)
				}
				d.Sync()
			}
			if !d.Down() {
				t.Fatalf("%s, armed with %d: up behind as many", x.name, n)
			}
		}
	}
}

func TestP8_1NewDiskHasNothingLoose(t *testing.T) {
	d := disk.New()
	l, picture, recs, e := wal.Open(d)
	if l == nil || len(picture) != 0 || len(recs) != 0 || e != api.OK || l.Size() != 0 {
		t.Fatalf("%v, %q, %q, %d", l, picture, recs, e)
	}
	wantStands(t, "a new disk", d, 0, stand{})
}

// TestP8_1EachBeginning: behind the Open just the told frames stand in front, and what stood there is let be.
func TestP8_1EachBeginning(t *testing.T) {
	for _, x := range beginnings() {
		p := opened(t, x.m, x.row...)
		wantSame(t, x.name, p.d, p.r)
		p.wantHeld(t, x.name)
		if x.m.empty {
			continue
		}
		ahead := stood(t, x.name, made(t, x.row...))
		want := stand{front: 1 - ahead.front}
		want.areas[ahead.front] = ahead.areas[ahead.front]
		want.areas[1-ahead.front] = x.m.stands()
		wantStands(t, x.name, p.d, 0, want)
	}
}

// TestP8_1TornEmptyPicture: it is as if the empty picture's frame alone stood there.
func TestP8_1TornEmptyPicture(t *testing.T) {
	for n := 1; n <= len(emptyFrame); n++ {
		for area := range 2 {
			for _, other := range []string{"", "bytes", framed("other", "one")} {
				cut := emptyFrame[:n]
				name := fmt.Sprint(n, " bytes in ", area, ", ", brief(other), " in the other one")
				p := opened(t, &model{front: area}, add(area, cut), add(1-area, other), front(area), sync)
				wantSame(t, name, p.d, p.r)
				want := stand{front: 1 - area}
				want.areas[area], want.areas[1-area] = cut, emptyFrame
				wantStands(t, name, p.d, 0, want)
				p.do(t, call{"add", "a"})
				want.areas[1-area] += aFrame
				wantStands(t, name+", added to", p.d, 1, want)
			}
		}
	}
}

// nothings has bytes of which no frame stands at the beginning, and that aren't a beginning of an empty picture's.
func nothings() map[string]string {
	l := map[string]string{
		"a byte":                               "\x01",
		"the greatest byte":                    "\xff",
		"five noughts":                         "\x00\x00\x00\x00\x00",
		"twelve noughts":                       string(make([]byte, 12)),
		"many noughts":                         string(make([]byte, 100)),
		"text":                                 "nothing",
		"a nought, and a frame":                "\x00" + aFrame,
		"a byte, and an empty picture's":       "\x01" + emptyFrame,
		"half an empty picture's, and a frame": emptyFrame[:6] + aFrame,
		"all but one byte of it, and one more of it": emptyFrame[:11] + emptyFrame,
		"its end":                       emptyFrame[1:],
		"its sum":                       emptyFrame[4:],
		"a sum of a record alone":       "\x01\x00\x00\x00" + emptyFrame[4:] + "a",
		"the beginning of 256 bytes":    framed(pattern(256))[:2],
		"a longer record than there is": framed(pattern(300))[:311],
	}
	for i := range emptyFrame {
		l[fmt.Sprint("an empty picture's frame, turned at ", i)] = turnedAt(emptyFrame, i)
		l[fmt.Sprint("its beginning, turned at the end, of ", i+1)] = turnedAt(emptyFrame[:i+1], i)
		l[fmt.Sprint("its beginning, turned first, of ", i+1)] = turnedAt(emptyFrame[:i+1], 0)
		l[fmt.Sprint("turned at ", i, ", and a frame")] = turnedAt(emptyFrame, i) + aFrame
	}
	for n := 1; n < len(helloFrame); n++ {
		l[fmt.Sprint("a frame, cut off at ", n)] = helloFrame[:n]
	}
	for i := range helloFrame {
		l[fmt.Sprint("a frame, turned at ", i)] = turnedAt(helloFrame, i)
		l[fmt.Sprint("a frame, turned at ", i, ", and one")] = turnedAt(helloFrame, i) + aFrame
	}
	return l
}

func TestP8_1NoFrameAtTheBeginning(t *testing.T) {
	for name, stands := range nothings() {
		for _, row := range [][]change{
			{add(0, stands)},
			{add(0, stands), sync},
			{add(1, stands), front(1), sync},
			{add(0, framed("other")), add(1, stands), sync, front(1)},
		} {
			d, r := made(t, row...), made(t, row...)
			l, picture, recs, e := wal.Open(d)
			if e != api.ErrBytes {
				t.Fatalf("%s: Open answers the error %d", name, e)
			}
			wantNothing(t, name, l, picture, recs)
			wantSame(t, name, d, r)
			for _, n := range []int{1, 2, 6} {
				d, r := made(t, row...), made(t, row...)
				d.Arm(n)
				r.Arm(n)
				if _, _, _, e := wal.Open(d); e != api.ErrBytes {
					t.Fatalf("%s, armed with %d: Open answers the error %d", name, n, e)
				}
				wantSame(t, name, d, r)
				d.Wipe(0)
				r.Wipe(0)
				wantSame(t, name, d, r)
			}
		}
	}
}

// TestP8_1OtherAreaIsNotRead: what stands there is neither told nor in the way.
func TestP8_1OtherAreaIsNotRead(t *testing.T) {
	for name, stands := range nothings() {
		for area := range 2 {
			wantOpens(t, name, made(t, add(1-area, stands), front(area)), newModel(area))
			d := made(t, add(1-area, stands), add(area, helloFrame+aFrame), front(area))
			wantOpens(t, name, d, &model{front: area, picture: "hello", recs: []string{"a"}})
			want := stand{front: 1 - area}
			want.areas[area], want.areas[1-area] = helloFrame+aFrame, helloFrame+aFrame
			wantStands(t, name, d, 0, want)
		}
	}
}

// TestP8_1SomethingBehindTheFrames: what is told ends ahead of it, and it is gone from what stands in front.
func TestP8_1SomethingBehindTheFrames(t *testing.T) {
	behind := map[string]string{"a nought": "\x00", "a byte": "\x07", "noughts": string(make([]byte, 40)), "text": "something else"}
	for n := 1; n < len(helloFrame); n++ {
		behind[fmt.Sprint("a frame, cut off at ", n)] = helloFrame[:n]
	}
	for n := 1; n < len(emptyFrame); n++ {
		behind[fmt.Sprint("an empty record's, cut off at ", n)] = emptyFrame[:n]
	}
	for i := range helloFrame {
		behind[fmt.Sprint("a frame, turned at ", i, ", and one")] = turnedAt(helloFrame, i) + aFrame
	}
	for name, rest := range behind {
		for _, recs := range [][]string{nil, {"a"}, {"", "a", ""}} {
			for _, picture := range []string{"", "pic"} {
				for area := range 2 {
					m := &model{front: area, picture: picture, recs: recs}
					p := opened(t, m, add(area, m.stands()+rest), front(area), sync)
					wantSame(t, name, p.d, p.r)
					want := stand{front: 1 - area}
					want.areas[area], want.areas[1-area] = m.stands()+rest, m.stands()
					wantStands(t, name, p.d, 0, want)
					p.do(t, call{"add", "new"})
					p.wantHeld(t, name)
				}
			}
		}
	}
}

// TestP8_1ArmedAtEachChange: wipe, append in one, sync, front, sync.
func TestP8_1ArmedAtEachChange(t *testing.T) {
	for _, x := range beginnings() {
		if x.m.empty {
			continue
		}
		for n := range 8 {
			d, r := made(t, x.row...), made(t, x.row...)
			d.Arm(n)
			r.Arm(n)
			l, picture, recs, e := wal.Open(d)
			name := fmt.Sprint(x.name, ", armed with ", n)
			want := byHand(r, x.m.changes(call{"open", ""}))
			if e != want || (e == api.OK) != (n >= 5) {
				t.Fatalf("%s: Open answers the error %d", name, e)
			}
			wantSame(t, name, d, r)
			if e != api.OK {
				wantNothing(t, name, l, picture, recs)
				continue
			}
			wantTold(t, name, picture, recs, x.m)
			if l.Size() != len(x.m.stands()) {
				t.Fatalf("%s: Size tells %d", name, l.Size())
			}
			if e := l.Flush(); (e == api.OK) != (n > 5) {
				t.Fatalf("%s: Flush behind it answers the error %d", name, e)
			}
		}
	}
}

// TestP8_1ArmedWrittenOut has what stands in both areas behind each change of an Open.
func TestP8_1ArmedWrittenOut(t *testing.T) {
	old, half, lone := emptyFrame+aFrame+abFrame[:5], emptyFrame+aFrame, "other"
	for n, x := range []struct {
		loose       int
		all, synced stand
	}{
		{0, stand{[2]string{old, lone}, 0}, stand{[2]string{old, lone}, 0}},
		{1, stand{[2]string{old, ""}, 0}, stand{[2]string{old, lone}, 0}},
		{2, stand{[2]string{old, half}, 0}, stand{[2]string{old, lone}, 0}},
		{0, stand{[2]string{old, half}, 0}, stand{[2]string{old, half}, 0}},
		{1, stand{[2]string{old, half}, 1}, stand{[2]string{old, half}, 0}},
		{0, stand{[2]string{old, half}, 1}, stand{[2]string{old, half}, 1}},
	} {
		d := made(t, add(0, old), add(1, lone), sync)
		d.Arm(n)
		if _, _, _, e := wal.Open(d); (e == api.ErrDown) != (n < 5) || (e == api.OK) != (n == 5) {
			t.Fatalf("armed with %d: Open answers the error %d", n, e)
		}
		if d.Loose() != x.loose || !d.Down() {
			t.Fatalf("armed with %d: %d loose, down: %v", n, d.Loose(), d.Down())
		}
		c := d.Clone()
		c.Crash(9, 0)
		wantStands(t, fmt.Sprint(n, ", all kept"), c, 0, x.all)
		d.Crash(0, 0)
		wantStands(t, fmt.Sprint(n, ", none kept"), d, 0, x.synced)
	}
}

// TestP8_1Down: ErrDown is named ahead of ErrBytes.
func TestP8_1Down(t *testing.T) {
	for _, stands := range []string{"", "nothing", emptyFrame, emptyFrame[:3], helloFrame + aFrame, helloFrame[:7]} {
		for _, loose := range []bool{false, true} {
			d, r := made(t, add(0, stands), sync), made(t, add(0, stands), sync)
			if loose {
				d, r = made(t, add(0, stands)), made(t, add(0, stands))
			}
			d.Arm(0)
			r.Arm(0)
			for range 2 {
				l, picture, recs, e := wal.Open(d)
				if e != api.ErrDown {
					t.Fatalf("%q, down: Open answers the error %d", stands, e)
				}
				wantNothing(t, stands, l, picture, recs)
				wantSame(t, stands, d, r)
			}
		}
	}
}

func TestP8_1GreatFrames(t *testing.T) {
	great := pattern(api.MaxFrame)
	for _, m := range []*model{
		{picture: great},
		{recs: []string{great, "a"}},
		{picture: great, recs: []string{"", great}},
	} {
		d := made(t, add(0, m.stands()+"rest"))
		wantOpens(t, "great frames", d, m)
		wantStands(t, "great frames", d, 0, stand{[2]string{m.stands() + "rest", m.stands()}, 1})
	}
}

// TestP8_1BeyondMaxFrame: what is longer stands in no frame.
func TestP8_1BeyondMaxFrame(t *testing.T) {
	beyond := framed(pattern(api.MaxFrame+1), "b")
	m := &model{picture: "pic", recs: []string{"a"}}
	wantOpens(t, "behind the frames", made(t, add(0, m.stands()+beyond)), m)
	d := made(t, add(0, beyond))
	l, picture, recs, e := wal.Open(d)
	if e != api.ErrBytes {
		t.Fatalf("at the beginning: Open answers the error %d", e)
	}
	wantNothing(t, "at the beginning", l, picture, recs)
	wantStands(t, "at the beginning", d, 1, stand{[2]string{beyond, ""}, 0})
}

func TestP8_1ManyRecords(t *testing.T) {
	m := &model{picture: pattern(1000)}
	for i := range 20000 {
		m.recs = append(m.recs, pattern(i%7))
	}
	d := made(t, add(0, m.stands()))
	wantOpens(t, "many records", d, m)
	wantStands(t, "many records", d, 0, stand{[2]string{m.stands(), m.stands()}, 1})
}

// TestP8_1OpenedAgain: the front goes to and fro, and nothing else is turned.
func TestP8_1OpenedAgain(t *testing.T) {
	for _, x := range beginnings() {
		p := opened(t, x.m, x.row...)
		for range 5 {
			p.do(t, call{"open", ""})
			wantSame(t, x.name, p.d, p.r)
			p.wantHeld(t, x.name)
		}
	}
}

// TestP8_1TheSameOfClones: what an Open answers hangs on the disk alone.
func TestP8_1TheSameOfClones(t *testing.T) {
	for _, x := range beginnings() {
		d := made(t, x.row...)
		c := d.Clone()
		_, p1, r1, e1 := wal.Open(d)
		_, p2, r2, e2 := wal.Open(c)
		if e1 != e2 || !bytes.Equal(p1, p2) || !slices.Equal(texts(r1), texts(r2)) {
			t.Errorf("%s: %q %q %d, and %q %q %d", x.name, p1, r1, e1, p2, r2, e2)
		}
		wantSame(t, x.name, d, c)
	}
}
