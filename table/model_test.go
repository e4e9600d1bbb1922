package table_test

import (
	"fmt"
	"slices"
	"strings"
	"testing"

	"lockgate/api"
	"lockgate/table"
)

// v is written by hand, so that the tests' versions don't hang on package ver.
func v(epoch, num int) api.Ver { return api.Ver(complex(float64(epoch), float64(num))) }

// behind is the chapter's word, held against the whole numbers of the parts.
func behind(a, b api.Ver) bool {
	ae, an, be, bn := int(real(a)), int(imag(a)), int(real(b)), int(imag(b))
	return be < ae || be == ae && bn < an
}

func put(key string, epoch, num int, val string) api.Entry {
	return api.Entry{Ver: v(epoch, num), Kind: api.Put, Key: key, Val: val, Write: true}
}

func del(key string, epoch, num int) api.Entry {
	return api.Entry{Ver: v(epoch, num), Kind: api.Delete, Key: key, Write: true, Del: true}
}

func get(key string, epoch, num int) api.Entry {
	return api.Entry{Ver: v(epoch, num), Kind: api.Get, Key: key, Val: "read"}
}

func has(key string, epoch, num int, val string) api.Row {
	return api.Row{Key: key, Ver: v(epoch, num), Val: val}
}

func gone(key string, epoch, num int) api.Row {
	return api.Row{Key: key, Ver: v(epoch, num), Del: true}
}

// model keeps rows in whatever order their keys came, and is put in order when it is asked.
type model struct{ rows []api.Row }

// of is a model of these rows, with memory of its own.
func of(l []api.Row) *model {
	m := &model{}
	for _, r := range l {
		m.rows = append(m.rows, r)
	}
	return m
}

func (m *model) at(key string) *api.Row {
	for i := range m.rows {
		if m.rows[i].Key == key {
			return &m.rows[i]
		}
	}
	return nil
}

// apply does one entry, by the chapter's words.
func (m *model) apply(floor api.Ver, e api.Entry) {
	if !e.Write {
		return
	}
	if !behind(e.Ver, floor) {
		return
	}
	r := m.at(e.Key)
	if r != nil && !behind(e.Ver, r.Ver) {
		return
	}
	if r == nil {
		m.rows = append(m.rows, api.Row{Key: e.Key})
		r = &m.rows[len(m.rows)-1]
	}
	r.Ver, r.Val, r.Del = e.Ver, e.Val, e.Del
	if e.Del {
		r.Val = ""
	}
}

func (m *model) applyAll(floor api.Ver, es []api.Entry) *model {
	for _, e := range es {
		m.apply(floor, e)
	}
	return m
}

func (m *model) collect(floor api.Ver) *model {
	var l []api.Row
	for _, r := range m.rows {
		if r.Del && !behind(r.Ver, floor) {
			continue
		}
		l = append(l, r)
	}
	m.rows = l
	return m
}

func (m *model) list() []api.Row {
	l := of(m.rows).rows
	slices.SortFunc(l, func(a, b api.Row) int { return strings.Compare(a.Key, b.Key) })
	return l
}

// rising tells whether the keys rise, byte by byte, looked at as bytes.
func rising(l []api.Row) bool {
	for i := 1; i < len(l); i++ {
		if slices.Compare([]byte(l[i-1].Key), []byte(l[i].Key)) >= 0 {
			return false
		}
	}
	return true
}

// wantRows holds rows against those that are asked for, and what is answered against the word right.
func wantRows(t *testing.T, what string, got, want []api.Row) {
	t.Helper()
	if len(got) != len(want) {
		t.Fatalf("%s: %d rows, %s; asked for are %d, %s", what, len(got), told(got), len(want), told(want))
	}
	for i := range got {
		if got[i] != want[i] {
			t.Fatalf("%s: row %d is %s; asked for is %s", what, i, one(got[i]), one(want[i]))
		}
	}
	if !rising(got) || !table.Right(got) {
		t.Fatalf("%s: the rows %s aren't right", what, told(got))
	}
}

func wantFound(t *testing.T, l []api.Row, key string, want api.Row, there bool) {
	t.Helper()
	if r, ok := table.Find(l, key); ok != there || r != want {
		t.Fatalf("Find(%s, %s) = %s, %v; asked for is %s, %v", told(l), brief(key), one(r), ok, one(want), there)
	}
}

func one(r api.Row) string {
	s := fmt.Sprintf("%s of %v %v %s", brief(r.Key), real(r.Ver), imag(r.Ver), brief(r.Val))
	if r.Del {
		s += " gone"
	}
	return s
}

// told keeps what a test tells short.
func told(l []api.Row) string {
	var parts []string
	for _, r := range l[:min(len(l), 5)] {
		parts = append(parts, one(r))
	}
	if len(l) > 5 {
		parts = append(parts, fmt.Sprintf("and %d more", len(l)-5))
	}
	return "[" + strings.Join(parts, "; ") + "]"
}

func toldEntries(es []api.Entry) string {
	var parts []string
	for _, e := range es[:min(len(es), 5)] {
		s := fmt.Sprintf("%s of %v %v %s", brief(e.Key), real(e.Ver), imag(e.Ver), brief(e.Val))
		if e.Del {
			s += " del"
		}
		if !e.Write {
			s += " no write"
		}
		parts = append(parts, s)
	}
	if len(es) > 5 {
		parts = append(parts, fmt.Sprintf("and %d more", len(es)-5))
	}
	return "[" + strings.Join(parts, "; ") + "]"
}

func brief(s string) string {
	if len(s) <= 12 {
		return fmt.Sprintf("%q", s)
	}
	return fmt.Sprintf("%q.. of %d bytes", s[:12], len(s))
}

// chance is the same row of numbers at each run.
type chance uint32

func (c *chance) below(n int) int {
	*c = *c*1664525 + 1013904223
	return int(uint32(*c)>>8) % n
}

// keys are short, some a beginning of others, some no UTF-8.
var keys = []string{"", "\x00", "a", "a\x00", "aa", "ab", "b", "b\x7f", "b\x80", "\xc3\xa4", "\xc3", "\xff", "\xff\xff"}

func (c *chance) ver(parts int) api.Ver { return v(c.below(parts), c.below(parts)) }

func (c *chance) entry(parts int) api.Entry {
	e := api.Entry{Key: keys[c.below(len(keys))], Ver: c.ver(parts), Val: fmt.Sprint("v", c.below(9))}
	e.Write = c.below(6) > 0
	e.Del = c.below(3) == 0
	return e
}

func (c *chance) entries(n, parts int) []api.Entry {
	var es []api.Entry
	for range n {
		es = append(es, c.entry(parts))
	}
	return es
}

// rows are right rows, whose keys are of the short ones.
func (c *chance) rows(parts int) []api.Row {
	m := &model{}
	for _, key := range keys {
		if c.below(2) == 0 {
			continue
		}
		r := api.Row{Key: key, Ver: c.ver(parts)}
		if c.below(3) == 0 {
			r.Del = true
		} else {
			r.Val = fmt.Sprint("w", c.below(9))
		}
		m.rows = append(m.rows, r)
	}
	return m.list()
}

// rowsOf calls with each row of at most n entries out of these.
func rowsOf(es []api.Entry, n int, call func([]api.Entry)) {
	var more func(row []api.Entry)
	more = func(row []api.Entry) {
		call(row)
		if len(row) == n {
			return
		}
		for _, e := range es {
			more(append(slices.Clone(row), e))
		}
	}
	more(nil)
}

// orders calls with each order of the entries.
func orders(es []api.Entry, call func([]api.Entry)) {
	var more func(at int)
	l := slices.Clone(es)
	more = func(at int) {
		if at == len(l) {
			call(slices.Clone(l))
			return
		}
		for i := at; i < len(l); i++ {
			l[at], l[i] = l[i], l[at]
			more(at + 1)
			l[at], l[i] = l[i], l[at]
		}
	}
	more(0)
}
