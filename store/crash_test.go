package store_test

import (
	"fmt"
	"math"
	"testing"

	"lockgate/api"
	"lockgate/disk"
	"lockgate/store"
)

// P10.3: what is there behind a crash.

// cutOff hands the messages of a row in, of which the power cuts one off, or none; it tells all that a crash may leave. (An empty Kind stands for an Open.)
func cutOff(t *testing.T, d *disk.Disk, shards int, row []api.Msg) []*model {
	t.Helper()
	m := newModel(shards)
	s, e := store.Open(d, shards)
	if e != api.OK {
		return []*model{m}
	}
	for _, x := range row {
		if x.Kind == 0 {
			if s, e = store.Open(d, shards); e != api.OK {
				return []*model{m}
			}
			continue
		}
		_, adds := m.answers(x)
		answers, e := s.Handle(x)
		if len(answers) == 0 && e != api.OK {
			c := m.clone()
			c.parts[x.Shard].do(x)
			return []*model{m, c}
		}
		if adds {
			m.parts[x.Shard].do(x)
		}
		if e != api.OK {
			return []*model{m}
		}
	}
	return []*model{m}
}

// wantOneOf opens the disk behind a crash, and tells which one of these is there.
func wantOneOf(t *testing.T, name string, d *disk.Disk, may []*model) (*store.Store, *model) {
	t.Helper()
	s, e := store.Open(d, len(may[0].parts))
	if e != api.OK {
		t.Fatalf("%s: Open answers the error %d", name, e)
	}
	for _, m := range may {
		if m.has(s) {
			return s, m
		}
	}
	t.Fatalf("%s: shard 0 has %d, %v, %s, which is none of what may be there", name, s.Fence(0), s.Floor(0), told(s.Rows(0)))
	return nil, nil
}

// wantEachCrash crashes a clone in all ways, opens it, and goes on with it.
func wantEachCrash(t *testing.T, name string, d *disk.Disk, may []*model, torns []int) {
	t.Helper()
	for keep := range d.Loose() + 1 {
		for _, torn := range torns {
			name := fmt.Sprint(name, ", Crash(", keep, ", ", torn, ")")
			c := d.Clone()
			c.Crash(keep, torn)
			s, m := wantOneOf(t, name, c, may)
			m = m.clone()
			for _, x := range []api.Msg{fence(0, 8), flush(0, 8, 0, put("new", 9, 9, "x"))} {
				want, _ := m.answers(x)
				wantAnswers(t, s, x, want)
				m.parts[0].do(x)
			}
			c.Crash(0, 0)
			m.wantOpens(t, name+", gone on", c)
		}
	}
}

// TestP10_3EachCrash of short messages, at each change, with an Open in between that may be cut off.
func TestP10_3EachCrash(t *testing.T) {
	l := []api.Msg{{}, fence(0, 1), flush(0, 0, 0, put("a", 0, 1, "x")), flush(0, 1, v(0, 1), del("a", 1, 2), put("b", 1, 3, "y"))}
	rows(l, 3, func(row []api.Msg) {
		for n := -1; n <= 5*len(row); n++ {
			d := disk.New()
			d.Arm(n)
			may := cutOff(t, d, 1, row)
			wantEachCrash(t, fmt.Sprint(all(row), ", armed with ", n), d, may, []int{-1, 0, 1, 12, 13, 25, 50, 80, math.MaxInt})
		}
	})
}

// TestP10_3EachCrashOfASave: messages of which two end the log.
func TestP10_3EachCrashOfASave(t *testing.T) {
	l := []api.Msg{{}, fence(1, 1), bigFlush(0, 0, 9000, "a", 1), bigFlush(0, 0, 9000, "b", 2)}
	rows(l, 3, func(row []api.Msg) {
		if len(row) < 2 {
			return
		}
		for n := -1; n <= 7*len(row); n++ {
			d := disk.New()
			d.Arm(n)
			may := cutOff(t, d, 2, row)
			if n >= 0 && !d.Down() {
				continue
			}
			wantEachCrash(t, fmt.Sprint(all(row), ", armed with ", n), d, may, []int{0, 14, 9000, math.MaxInt})
		}
	})
}

// TestP10_3EachTornByte of a record, and of a picture.
func TestP10_3EachTornByte(t *testing.T) {
	ahead := []api.Msg{fence(0, 1), flush(0, 1, 0, put("a", 1, 1, "x"), del("b", 1, 2))}
	last := flush(0, 1, v(1, 2), put("a", 1, 3, "y"))
	for torn := range len(frames(last)) + 2 {
		d := disk.New()
		d.Arm(5)
		may := cutOff(t, d, 1, append(ahead, last))
		if len(may) != 2 || d.Loose() != 1 {
			t.Fatalf("%d may be there, %d changes are loose", len(may), d.Loose())
		}
		d.Crash(0, torn)
		whole := torn >= len(frames(last))
		_, m := wantOneOf(t, fmt.Sprint("torn at ", torn), d, may)
		if (m == may[1]) != whole {
			t.Fatalf("torn at %d: it is there: %v", torn, m == may[1])
		}
	}
	for torn := 0; torn < 18100; torn += 113 {
		d := disk.New()
		d.Arm(6)
		may := cutOff(t, d, 1, []api.Msg{bigFlush(0, 0, 9000, "a", 1), bigFlush(0, 0, 9000, "b", 2)})
		if len(may) != 1 || d.Loose() != 2 {
			t.Fatalf("a picture: %d may be there, %d changes are loose", len(may), d.Loose())
		}
		d.Crash(1, torn)
		wantOneOf(t, fmt.Sprint("a picture, torn at ", torn), d, may)
	}
}

// TestP10_3OpenIsCutOff: an Open behind a crash is cut off itself, at each change, and once more.
func TestP10_3OpenIsCutOff(t *testing.T) {
	row := []api.Msg{fence(1, 2), bigFlush(0, 0, 9000, "a", 1), flush(1, 2, 0, put("b", 2, 1, "x")), bigFlush(0, 0, 9000, "a", 3), flush(0, 0, v(0, 3), del("a", 0, 4))}
	for n := range 20 {
		d := disk.New()
		d.Arm(n)
		may := cutOff(t, d, 2, row)
		d.Crash(1, 20)
		_, m := wantOneOf(t, "once", d.Clone(), may)
		wantOpensCutOff(t, fmt.Sprint("armed with ", n), d, m, 2)
	}
}

func wantOpensCutOff(t *testing.T, name string, d *disk.Disk, m *model, times int) {
	t.Helper()
	m.wantOpens(t, name, d.Clone())
	if times == 0 {
		return
	}
	for n := range 6 {
		c := d.Clone()
		c.Arm(n)
		store.Open(c, len(m.parts))
		for keep := range c.Loose() + 1 {
			again := c.Clone()
			again.Crash(keep, 30)
			wantOpensCutOff(t, fmt.Sprint(name, ", cut off at ", n, ", Crash(", keep, ", 30)"), again, m, times-1)
		}
	}
}

// watch knows what of a store was seen, and that may not fall any more.
type watch struct {
	fences []int
	floors []api.Ver
	rows   []map[string]api.Row
}

func newWatch(shards int) *watch {
	w := &watch{fences: make([]int, shards), floors: make([]api.Ver, shards)}
	for range shards {
		w.rows = append(w.rows, map[string]api.Row{})
	}
	return w
}

// look takes part of the messages that the store answers, and knows nothing of what they do.
func (w *watch) look(t *testing.T, name string, s *store.Store) {
	t.Helper()
	for n := range w.fences {
		if s.Fence(n) < w.fences[n] || behind(w.floors[n], s.Floor(n)) {
			t.Fatalf("%s: shard %d: the fence %d behind %d, the floor %v behind %v", name, n, s.Fence(n), w.fences[n], s.Floor(n), w.floors[n])
		}
		w.fences[n], w.floors[n] = s.Fence(n), s.Floor(n)
		there := map[string]bool{}
		for _, r := range s.Rows(n) {
			there[r.Key] = true
			if was, ok := w.rows[n][r.Key]; ok && (behind(was.Ver, r.Ver) || was.Ver == r.Ver && was != r) {
				t.Fatalf("%s: shard %d: %s behind %s", name, n, told([]api.Row{r}), told([]api.Row{was}))
			}
			w.rows[n][r.Key] = r
		}
		for key, was := range w.rows[n] {
			if !there[key] && (!was.Del || behind(was.Ver, w.floors[n])) {
				t.Fatalf("%s: shard %d: %s is gone, the floor is %v", name, n, told([]api.Row{was}), w.floors[n])
			}
		}
	}
}

// message is one by chance, most often one that does something.
func (c *chance) message(m *model) api.Msg {
	n := c.below(len(m.parts))
	p := &m.parts[n]
	switch c.below(9) {
	case 0:
		return fence(n, max(0, p.fence+c.below(4)-1))
	case 1:
		return read(n, fmt.Sprint("k", c.below(6)))
	case 2:
		return dressed(api.Msg{Kind: c.below(25), Shard: c.below(len(m.parts) + 1), Epoch: c.below(4)})
	}
	x := flush(n, p.fence, 0)
	if c.below(8) == 0 {
		x.Epoch += c.below(3) - 1
	}
	if c.below(3) == 0 {
		x.Floor = v(p.fence, c.below(60))
	}
	for range c.below(5) {
		e := put(fmt.Sprint("k", c.below(6)), max(0, p.fence-c.below(2)), c.below(80), pattern(c.below(9)))
		if c.below(8) == 0 {
			e.Val = pattern(c.below(6000))
		}
		if c.below(3) == 0 {
			e.Val, e.Del = "", true
		}
		e.Write = c.below(9) > 0
		x.Entries = append(x.Entries, e)
	}
	return x
}

// crashed is a pair of what a crash left, which is one of these.
func crashed(t *testing.T, name string, d *disk.Disk, may []*model, keep, torn int) *pair {
	t.Helper()
	d.Crash(keep, torn)
	s, m := wantOneOf(t, name, d, may)
	m = m.clone()
	areas, first := stood(t, name, d)
	m.front, m.text = first, areas[first]
	return &pair{s, d, d.Clone(), m}
}

// step asks one message, or opens the store anew, and tells what may be there, if the power is gone then.
func (p *pair) step(t *testing.T, name string, c *chance) []*model {
	t.Helper()
	if c.below(12) == 0 {
		p.open(t, name)
		return []*model{p.m}
	}
	x := p.m.clone()
	message := c.message(p.m)
	_, adds := p.m.answers(message)
	if e := p.ask(t, name, message); e == api.OK || !adds {
		return []*model{p.m}
	}
	x.parts[message.Shard].do(message)
	return []*model{p.m, x}
}

// TestP10LongWalks is of messages by chance, armed and crashed on the way, held against the model at each step, and watched.
func TestP10LongWalks(t *testing.T) {
	c := chance(1)
	for walk := range 60 {
		shards := 1 + walk%3
		p, w := started(t, shards), newWatch(shards)
		for step := range 120 {
			name := fmt.Sprint("walk ", walk, ", step ", step)
			if c.below(8) == 0 {
				n := c.below(14)
				p.d.Arm(n)
				p.r.Arm(n)
			}
			may := p.step(t, name, &c)
			wantSame(t, name, p.d, p.r)
			if p.d.Down() {
				p = crashed(t, name, p.d, may, c.below(4)-1, c.below(200)-1)
			}
			p.m.wantIn(t, name, p.s)
			w.look(t, name, p.s)
			if step%10 == 9 {
				p.m.wantOpens(t, name, armless(p.d))
			}
		}
	}
}

// armless is a clone that isn't armed.
func armless(d *disk.Disk) *disk.Disk {
	c := d.Clone()
	c.Arm(-1)
	return c
}
