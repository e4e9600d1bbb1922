package store_test

import (
	"fmt"
	"math"
	"slices"
	"strings"
	"testing"

	"lockgate/api"
	"lockgate/disk"
	"lockgate/store"
)

// longLog is how many bytes a log may have without a picture being saved.
const longLog = 16384

// v is written by hand, so that the tests' versions don't hang on package ver.
func v(epoch, num int) api.Ver { return api.Ver(complex(float64(epoch), float64(num))) }

// behind is chapter 1's word, held against the whole numbers of the parts.
func behind(a, b api.Ver) bool {
	ae, an, be, bn := int(real(a)), int(imag(a)), int(real(b)), int(imag(b))
	return be < ae || be == ae && bn < an
}

// put has something in all that a row has no place for: so what the store makes of it is seen.
func put(key string, epoch, num int, val string) api.Entry {
	return api.Entry{Ver: v(epoch, num), Kind: api.Put, Key: key, Val: val, Write: true, Sess: 3, Num: 4, Code: 5, Res: "r", HasRes: true}
}

func del(key string, epoch, num int) api.Entry {
	return api.Entry{Ver: v(epoch, num), Kind: api.Delete, Key: key, Write: true, Del: true, Sess: 6, Num: 7, Res: "s"}
}

func fence(shard, epoch int) api.Msg {
	return api.Msg{Kind: api.Fence, Shard: shard, Epoch: epoch}
}

func flush(shard, epoch int, floor api.Ver, es ...api.Entry) api.Msg {
	return api.Msg{Kind: api.Flush, Shard: shard, Epoch: epoch, Floor: floor, Entries: es}
}

func read(shard int, key string) api.Msg {
	return api.Msg{Kind: api.Read, Shard: shard, Key: key}
}

func has(key string, epoch, num int, val string) api.Row {
	return api.Row{Key: key, Ver: v(epoch, num), Val: val}
}

func gone(key string, epoch, num int) api.Row {
	return api.Row{Key: key, Ver: v(epoch, num), Del: true}
}

// dressed has something in all that the message's kind has no use for: so an answer that takes it along is seen, and a record that drops it.
func dressed(m api.Msg) api.Msg {
	m.From, m.To, m.Boot, m.SBoot = 5, 70, 6, 7
	m.Gen, m.Sess, m.Num, m.A, m.Code = 8, 9, 12, 10, 11
	m.Has, m.Fresh, m.Val, m.Ver = true, true, "val", v(3, 4)
	m.Op = api.Op{Kind: api.Swap, Key: "k", Val: "v", Old: "o", HasOld: true}
	m.Chain = []api.Member{{Node: 2, Boot: 1}, {Node: 3, Boot: -1}}
	m.Views = []api.View{{Shard: 1, Epoch: 2, Gen: 3, Phase: 4, Chain: []api.Member{{Node: 3, Boot: 4}}}}
	m.Image = api.Image{Floor: v(1, 1), Last: v(1, 2), Gen: 3, Log: []api.Entry{put("a", 1, 2, "log")}, Seen: []api.Seen{{Sess: 1, Num: 2, Ver: v(3, 4), Kind: 5, Code: 6, Res: "res", HasRes: true}}}
	if m.Kind != api.Read {
		m.Key = "a"
	}
	if m.Kind != api.Flush {
		m.Floor, m.Entries = v(99, 99), []api.Entry{put("a", 99, 100, "none"), del("b", 99, 101)}
	}
	return m
}

// part is what a store is to have of a shard.
type part struct {
	fence int
	floor api.Ver
	rows  map[string]api.Row
}

func (p *part) apply(e api.Entry) {
	if !e.Write {
		return
	}
	if r, ok := p.rows[e.Key]; ok && !behind(e.Ver, r.Ver) {
		return
	}
	r := api.Row{Key: e.Key, Ver: e.Ver, Val: e.Val, Del: e.Del}
	if e.Del {
		r.Val = ""
	}
	p.rows[e.Key] = r
}

// do is the message done, by the chapter's words.
func (p *part) do(m api.Msg) {
	if m.Kind == api.Fence {
		p.fence = max(p.fence, m.Epoch)
		return
	}
	if behind(m.Floor, p.floor) {
		p.floor = m.Floor
	}
	for _, e := range m.Entries {
		if behind(e.Ver, p.floor) {
			p.apply(e)
		}
	}
	for key, r := range p.rows {
		if r.Del && !behind(r.Ver, p.floor) {
			delete(p.rows, key)
		}
	}
}

func (p *part) list() []api.Row {
	var l []api.Row
	for _, r := range p.rows {
		l = append(l, r)
	}
	slices.SortFunc(l, func(a, b api.Row) int { return strings.Compare(a.Key, b.Key) })
	return l
}

// asMsg is the part in a picture.
func (p *part) asMsg(n int) api.Msg {
	m := api.Msg{Kind: api.Flush, Shard: n, Epoch: p.fence, Floor: p.floor}
	for _, r := range p.list() {
		m.Entries = append(m.Entries, api.Entry{Ver: r.Ver, Key: r.Key, Val: r.Val, Write: true, Del: r.Del})
	}
	return m
}

// model is what a store is to have, and what is to stand in front on its disk.
type model struct {
	parts []part
	front int
	text  string
}

func newModel(shards int) *model {
	m := &model{parts: make([]part, shards)}
	for n := range m.parts {
		m.parts[n].rows = map[string]api.Row{}
	}
	return m
}

func (m *model) clone() *model {
	c := *m
	c.parts = slices.Clone(m.parts)
	for n, p := range m.parts {
		c.parts[n].rows = map[string]api.Row{}
		for key, r := range p.rows {
			c.parts[n].rows[key] = r
		}
	}
	return &c
}

func (m *model) picture() string {
	var l []api.Msg
	for n := range m.parts {
		l = append(l, m.parts[n].asMsg(n))
	}
	return frames(l...)
}

// answers is what is to be answered to a message, and whether it is to be added.
func (m *model) answers(x api.Msg) ([]api.Msg, bool) {
	if x.Shard < 0 || x.Shard >= len(m.parts) {
		return nil, false
	}
	p := &m.parts[x.Shard]
	a := api.Msg{From: x.To, To: x.From, Boot: x.SBoot, Shard: x.Shard}
	switch x.Kind {
	case api.Fence:
		a.Kind, a.Epoch = api.Fenced, max(p.fence, x.Epoch)
		return []api.Msg{a}, x.Epoch > p.fence
	case api.Flush:
		a.Kind, a.Epoch, a.Num = api.Flushed, x.Epoch, x.Num
		if x.Epoch != p.fence {
			a.Code = int(api.ErrOld)
			return []api.Msg{a}, false
		}
		return []api.Msg{a}, true
	case api.Read:
		a.Kind, a.Epoch, a.Num, a.Key = api.Value, x.Epoch, x.Num, x.Key
		if r, ok := p.rows[x.Key]; ok {
			a.Ver = r.Ver
			if !r.Del {
				a.Has, a.Val = true, r.Val
			}
		}
		return []api.Msg{a}, false
	}
	return nil, false
}

// handle is the message handled, with all changes done by hand at a disk.
func (m *model) handle(r *disk.Disk, x api.Msg) ([]api.Msg, api.Errno) {
	answers, adds := m.answers(x)
	if !adds {
		return answers, api.OK
	}
	text := framed(written(x))
	if m.text == "" {
		text = framed("", written(x))
	}
	if e := byHand(r, add(m.front, text), sync); e != api.OK {
		return nil, e
	}
	m.text += text
	m.parts[x.Shard].do(x)
	if len(m.text) <= longLog {
		return answers, api.OK
	}
	return answers, m.turn(r, framed(m.picture()))
}

// open is what an Open does at a disk.
func (m *model) open(r *disk.Disk) api.Errno {
	if r.Down() {
		return api.ErrDown
	}
	if m.text == "" {
		return api.OK
	}
	return m.turn(r, m.text)
}

// turn is the text put in front.
func (m *model) turn(r *disk.Disk, text string) api.Errno {
	if e := byHand(r, turned(1-m.front, text)...); e != api.OK {
		return e
	}
	m.front, m.text = 1-m.front, text
	return api.OK
}

// change is one that is done at a disk by hand.
type change func(d *disk.Disk) api.Errno

func add(area int, text string) change {
	return func(d *disk.Disk) api.Errno { return d.Append(area, []byte(text)) }
}

func wipe(area int) change { return func(d *disk.Disk) api.Errno { return d.Wipe(area) } }

func front(area int) change { return func(d *disk.Disk) api.Errno { return d.Front(area) } }

func sync(d *disk.Disk) api.Errno { return d.Sync() }

// turned is the five changes that put the text in front.
func turned(area int, text string) []change {
	return []change{wipe(area), add(area, text), sync, front(area), sync}
}

// byHand does changes until one answers an error, and tells that.
func byHand(d *disk.Disk, row ...change) api.Errno {
	for _, c := range row {
		if e := c(d); e != api.OK {
			return e
		}
	}
	return api.OK
}

// diskOf is a disk that has the text in front, in area 0, lasting.
func diskOf(t *testing.T, text string) *disk.Disk {
	t.Helper()
	d := disk.New()
	if e := byHand(d, add(0, text), sync); e != api.OK {
		t.Fatalf("the disk answers the error %d", e)
	}
	return d
}

// pair is a store with its disk, what it is to have, and a disk at which the changes are done by hand.
type pair struct {
	s    *store.Store
	d, r *disk.Disk
	m    *model
}

// started is a pair of a new disk.
func started(t *testing.T, shards int) *pair {
	t.Helper()
	return opened(t, newModel(shards), disk.New())
}

// opened is a pair of a disk, of which m says what stands there.
func opened(t *testing.T, m *model, d *disk.Disk) *pair {
	t.Helper()
	p := &pair{d: d, r: d.Clone(), m: m.clone()}
	p.reopen(t, "the first Open")
	return p
}

// reopen opens the store anew, which is to be answered with OK.
func (p *pair) reopen(t *testing.T, name string) {
	t.Helper()
	if e := p.open(t, name); e != api.OK {
		t.Fatalf("%s: Open answers the error %d", name, e)
	}
}

// open opens the store anew, on a disk that may be armed, and tells the error.
func (p *pair) open(t *testing.T, name string) api.Errno {
	t.Helper()
	s, e := store.Open(p.d, len(p.m.parts))
	if want := p.m.open(p.r); e != want || (s == nil) != (e != api.OK) {
		t.Fatalf("%s: Open answers the error %d, and a store: %v; asked for is %d", name, e, s != nil, want)
	}
	if e == api.OK {
		p.s = s
	}
	return e
}

// ask hands a message in, holds what is answered against the model, and tells the error.
func (p *pair) ask(t *testing.T, name string, x api.Msg) api.Errno {
	t.Helper()
	got, e := p.s.Handle(x)
	want, we := p.m.handle(p.r, x)
	if e != we || !slices.Equal(inBytes(got), inBytes(want)) {
		t.Fatalf("%s, %s: it answers %s, %d; asked for is %s, %d", name, one(x), all(got), e, all(want), we)
	}
	return e
}

// do asks, which is to be answered without an error, and looks at all that comes of it.
func (p *pair) do(t *testing.T, name string, l ...api.Msg) {
	t.Helper()
	for _, x := range l {
		if e := p.ask(t, name, x); e != api.OK {
			t.Fatalf("%s, %s: the error %d", name, one(x), e)
		}
		p.check(t, name+", "+one(x))
	}
}

// check looks at the store, at both disks, and at what a clone opens to.
func (p *pair) check(t *testing.T, name string) {
	t.Helper()
	p.m.wantIn(t, name, p.s)
	wantSame(t, name, p.d, p.r)
	if !p.d.Down() {
		p.m.wantOpens(t, name+", a clone opened", p.d.Clone())
	}
}

// wantOpens asks what a disk opens to.
func (m *model) wantOpens(t *testing.T, name string, d *disk.Disk) *store.Store {
	t.Helper()
	s, e := store.Open(d, len(m.parts))
	if e != api.OK {
		t.Fatalf("%s: Open answers the error %d", name, e)
	}
	m.wantIn(t, name, s)
	return s
}

// none is numbers of shards that there aren't.
func none(shards int) []int {
	return []int{math.MinInt, -shards, -1, shards, shards + 1, api.MaxShards, 1 << 32, math.MaxInt}
}

// wantIn asks Fence, Floor and Rows of all shards, and of some that there aren't.
func (m *model) wantIn(t *testing.T, name string, s *store.Store) {
	t.Helper()
	for n := range m.parts {
		p := &m.parts[n]
		if s.Fence(n) != p.fence || s.Floor(n) != p.floor || !slices.Equal(s.Rows(n), p.list()) {
			t.Fatalf("%s: of shard %d there are %d, %v, %s; asked for is %d, %v, %s", name, n, s.Fence(n), s.Floor(n), told(s.Rows(n)), p.fence, p.floor, told(p.list()))
		}
	}
	for _, n := range none(len(m.parts)) {
		if s.Fence(n) != 0 || s.Floor(n) != 0 || len(s.Rows(n)) != 0 {
			t.Fatalf("%s: of shard %d, which isn't there, there are %d, %v, %s", name, n, s.Fence(n), s.Floor(n), told(s.Rows(n)))
		}
	}
}

// has: is it what the store has?
func (m *model) has(s *store.Store) bool {
	for n := range m.parts {
		p := &m.parts[n]
		if s.Fence(n) != p.fence || s.Floor(n) != p.floor || !slices.Equal(s.Rows(n), p.list()) {
			return false
		}
	}
	return true
}

// stood is what stands on a disk that is up, as a text.
func stood(t *testing.T, name string, d *disk.Disk) (areas [2]string, first int) {
	t.Helper()
	for area := range areas {
		b, e := d.Read(area)
		if e != api.OK {
			t.Fatalf("%s: Read(%d) answers the error %d", name, area, e)
		}
		areas[area] = string(b)
	}
	first, e := d.First()
	if e != api.OK {
		t.Fatalf("%s: First answers the error %d", name, e)
	}
	return areas, first
}

// wantSame asks that two disks are the same: up or down, in what stands there, and in what a crash would take.
func wantSame(t *testing.T, name string, d, r *disk.Disk) {
	t.Helper()
	if d.Down() != r.Down() || d.Loose() != r.Loose() {
		t.Fatalf("%s: down: %v, %d loose; asked for is %v, %d", name, d.Down(), d.Loose(), r.Down(), r.Loose())
	}
	keeps := []int{r.Loose(), 0}
	if r.Down() {
		d, r = d.Clone(), r.Clone()
	} else {
		wantStands(t, name, d, r)
	}
	for _, keep := range keeps[:min(r.Loose(), 1)+1] {
		dc, rc := d.Clone(), r.Clone()
		dc.Crash(keep, 20)
		rc.Crash(keep, 20)
		wantStands(t, fmt.Sprintf("%s, Crash(%d, 20)", name, keep), dc, rc)
	}
}

func wantStands(t *testing.T, name string, d, r *disk.Disk) {
	t.Helper()
	got, gotFirst := stood(t, name, d)
	want, wantFirst := stood(t, name, r)
	if got != want || gotFirst != wantFirst {
		t.Fatalf("%s: %s and %s stand, %d in front; asked for is %s and %s, %d", name, brief(got[0]), brief(got[1]), gotFirst, brief(want[0]), brief(want[1]), wantFirst)
	}
}

// wantFront asks for the bytes of the area in front.
func wantFront(t *testing.T, name string, d *disk.Disk, want string) {
	t.Helper()
	areas, first := stood(t, name, d)
	if areas[first] != want {
		t.Fatalf("%s: %s stands in front; asked for is %s", name, brief(areas[first]), brief(want))
	}
}

// inBytes is messages as texts, which are equal where the messages are: nil and empty lists are one.
func inBytes(l []api.Msg) []string {
	var out []string
	for _, m := range l {
		out = append(out, written(m))
	}
	return out
}

// rows calls f with all rows of so many of these, at most. It hands out the same memory each time.
func rows[T any](of []T, most int, f func(row []T)) {
	row := make([]T, 0, most)
	var from func()
	from = func() {
		f(row)
		if len(row) == most {
			return
		}
		for _, x := range of {
			row = append(row, x)
			from()
			row = row[:len(row)-1]
		}
	}
	from()
}

// one keeps what a test tells of a message short.
func one(m api.Msg) string {
	s := fmt.Sprintf("{Kind %d, %d to %d, Boot %d, SBoot %d, Shard %d, Epoch %d, Num %d, Code %d, Key %s", m.Kind, m.From, m.To, m.Boot, m.SBoot, m.Shard, m.Epoch, m.Num, m.Code, brief(m.Key))
	return s + fmt.Sprintf(", Has %v, Val %s, Ver %v, Floor %v, %d entries, %d bytes}", m.Has, brief(m.Val), m.Ver, m.Floor, len(m.Entries), len(written(m)))
}

func all(l []api.Msg) string {
	var parts []string
	for _, m := range l {
		parts = append(parts, one(m))
	}
	return "[" + strings.Join(parts, " ") + "]"
}

// told keeps what a test tells of rows short.
func told(l []api.Row) string {
	var parts []string
	for _, r := range l[:min(len(l), 5)] {
		parts = append(parts, fmt.Sprintf("%s of %v %s %v", brief(r.Key), r.Ver, brief(r.Val), r.Del))
	}
	return fmt.Sprintf("[%s] (%d)", strings.Join(parts, "; "), len(l))
}

func brief(s string) string {
	if len(s) <= 40 {
		return fmt.Sprintf("%q", s)
	}
	return fmt.Sprintf("%q .. (%d bytes)", s[:40], len(s))
}

// pattern is n bytes, unlike from one to the next.
func pattern(n int) string {
	b := make([]byte, n)
	for i := range b {
		b[i] = byte(i*7 + i/251)
	}
	return string(b)
}

// chance is the same row of numbers at each run.
type chance uint32

func (c *chance) below(n int) int {
	*c = *c*1664525 + 1013904223
	return int(uint32(*c)>>8) % n
}
