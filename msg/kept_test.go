package msg_test

import (
	"bytes"
	"math"
	"reflect"
	"slices"
	"strings"
	"testing"

	"lockgate/api"
	"lockgate/msg"
	"lockgate/ver"
)

// P6.2: what follows.

func TestP6_2ReadAsItWas(t *testing.T) {
	for _, x := range things() {
		for _, ahead := range x.ahead {
			b := x.put(bytes.Clone(ahead), x.value)
			end := len(b)
			for _, behind := range x.behind {
				if got := x.get(append(b, behind...), len(ahead)); !same(got, answer{x.value, end, true}) {
					t.Fatalf("%v, behind %v and ahead of %v: is read otherwise, behind %d, not %d, %v", x, ahead, behind, got.behind, end, got.ok)
				}
			}
		}
	}
}

func TestP6_2ReadAsItWasWithEachByteAround(t *testing.T) {
	for _, x := range few()[3:] {
		for i := range 256 {
			b := append(x.put(row(byte(i)), x.value), byte(255-i))
			if got := x.get(b, 1); !same(got, answer{x.value, len(b) - 1, true}) {
				t.Fatalf("%v, behind %d and ahead of %d: is read otherwise, behind %d, %v", x, i, 255-i, got.behind, got.ok)
			}
		}
	}
}

func TestP6_2AllReadInTheirOrder(t *testing.T) {
	var b []byte
	for _, x := range openThings() {
		b = x.put(b, x.value)
	}
	at := 0
	for _, x := range openThings() {
		end := at + len(x.bytes())
		if got := x.get(b, at); !same(got, answer{x.value, end, true}) {
			t.Fatalf("%v at %d: is read otherwise, behind %d, not %d, %v", x, at, got.behind, end, got.ok)
		}
		at = end
	}
	if at != len(b) {
		t.Errorf("%d of %d bytes are read", at, len(b))
	}
}

// TestP6_2GreatestOfAll has texts of MaxText bytes in each of several items.
func TestP6_2GreatestOfAll(t *testing.T) {
	full := strings.Repeat("f", api.MaxText)
	v := ver.Make(api.MaxCount, api.MaxCount)
	e := api.Entry{Ver: v, Kind: math.MinInt, Key: full, Val: full, Write: true, Del: true, Sess: math.MaxInt, Num: math.MinInt, Code: math.MaxInt, Res: full, HasRes: true}
	s := api.Seen{Sess: math.MinInt, Num: math.MaxInt, Ver: v, Kind: math.MinInt, Code: math.MaxInt, Res: full, HasRes: true}
	m := api.Msg{
		Kind: math.MinInt, Key: full, Val: full, Ver: v, Floor: v,
		Op:      api.Op{Kind: math.MaxInt, Key: full, Val: full, Old: full, HasOld: true},
		Entries: []api.Entry{e, e, e},
		Image:   api.Image{Floor: v, Last: v, Gen: math.MinInt, Log: []api.Entry{e, e}, Seen: []api.Seen{s, s}},
	}
	b := msg.Put(m)
	if got, ok := msg.Get(b); !ok || !alike(got, m) || !bytes.Equal(b, ofMsg(m).bytes()) {
		t.Errorf("a message of %d bytes is read otherwise: %v", len(b), ok)
	}
}

// oneWay asks that what is read of b at the place is just the bytes in which it is written; it tells whether something is.
func oneWay(t *testing.T, k kind, b []byte, at int) bool {
	t.Helper()
	got := k.get(b, at)
	if !got.ok {
		if !same(got, k.none) {
			t.Fatalf("no %s at %d of %s, but %+v", k.name, at, brief(b), got)
		}
		return false
	}
	if got.behind <= at || got.behind > len(b) || !bytes.Equal(k.put(nil, got.value), b[at:got.behind]) {
		t.Fatalf("a %s at %d of %s: %+v is written in another way", k.name, at, brief(b), got)
	}
	return true
}

func TestP6_2OneWayOfEachByteAnother(t *testing.T) {
	l := append(few(), ofMsg(api.Msg{A: 64, Sess: -65, Views: []api.View{{Shard: 64}}}), ofImage(api.Image{Gen: 64, Floor: ver.Make(100, 1)}), ofViews([]api.View{{Epoch: 64}, {Gen: 64}}))
	for _, x := range l {
		read := 0
		for i := range x.bytes() {
			for y := range 256 {
				b := x.bytes()
				b[i] = byte(y)
				for _, more := range x.behind {
					if oneWay(t, x.kind, join(b, more), 0) {
						read++
					}
				}
			}
		}
		// This holds the test to what it is for: much is read.
		if read < len(x.bytes()) {
			t.Errorf("%v: %d are read", x, read)
		}
	}
}

// TestP6_2OneWayOfManyBytes is of bytes that come of a rule: most of them small, so that something is often read.
func TestP6_2OneWayOfManyBytes(t *testing.T) {
	next := uint32(1)
	take := func(n int) int {
		next = next*1664525 + 1013904223
		return int(next>>16) % n
	}
	some := row(0, 0, 0, 0, 0, 0, 0, 0, 0, 1, 1, 2, 2, 4, 128, 129, 255)
	read := map[string]int{}
	for range 5000 {
		b := noughts(zeroMsg + take(30))
		for i := range b {
			if take(3) == 0 {
				b[i] = some[take(len(some))]
			}
		}
		for at := range b {
			for _, k := range []kind{messages, images, viewLists} {
				if oneWay(t, k, b, at) {
					read[k.name]++
				}
			}
		}
	}
	// This holds the test to what it is for: much is read.
	if read[messages.name] < 100 || read[images.name] < 1000 || read[viewLists.name] < 1000 {
		t.Error(read)
	}
}

// P6.3: what is handed in stays.

func TestP6_3OutStays(t *testing.T) {
	for name, out := range outs() {
		was := bytes.Clone(out)
		for _, x := range few()[3:] {
			b := x.put(out, x.value)
			if !bytes.Equal(out, was) || !bytes.Equal(b[:len(was)], was) {
				t.Fatalf("%v: %s is changed", x, name)
			}
		}
	}
}

func TestP6_3NothingIsWrittenFurtherThanOutMayGrow(t *testing.T) {
	for _, x := range few()[3:] {
		for n := range 300 {
			memory := bytes.Repeat(row(170), 400)
			x.put(memory[8:10:10+n], x.value)
			if !bytes.Equal(memory[:10], bytes.Repeat(row(170), 10)) || !bytes.Equal(memory[10+n:], bytes.Repeat(row(170), 390-n)) {
				t.Errorf("%v: with room for %d, others' bytes are changed", x, n)
			}
		}
	}
}

// lists has all lists of x, those within items too: each as it is now, with its memory.
func lists(x reflect.Value) []reflect.Value {
	var l []reflect.Value
	switch x.Kind() {
	case reflect.Struct:
		for i := range x.NumField() {
			l = append(l, lists(x.Field(i))...)
		}
	case reflect.Slice:
		l = append(l, reflect.ValueOf(x.Interface()))
		for i := range x.Len() {
			l = append(l, lists(x.Index(i))...)
		}
	}
	return l
}

// copied is a list's items up to the end of its memory, as they are now.
func copied(l reflect.Value) any {
	if l.IsNil() {
		return nil
	}
	whole := l.Slice(0, l.Cap())
	to := reflect.MakeSlice(l.Type(), whole.Len(), whole.Len())
	reflect.Copy(to, whole)
	return to.Interface()
}

// roomy is the full message, whose lists have room left, with others' items in it.
func roomy() api.Msg {
	m := fullMsg()
	m.Entries = append(m.Entries, fullImage().Log...)[:2]
	m.Chain = append(m.Chain, api.Member{Node: 9, Boot: 9})[:3]
	m.Views = append(m.Views, fullViews()...)[:2]
	m.Views[0].Chain = append(m.Views[0].Chain, fullChain()...)[:2]
	m.Image.Log = append(m.Image.Log, fullEntries()...)[:2]
	m.Image.Seen = append(m.Image.Seen, api.Seen{Sess: 9})[:2]
	return m
}

func TestP6_3WhatIsWrittenStays(t *testing.T) {
	for _, base := range []func() api.Msg{roomy, fullMsg, onesMsg, func() api.Msg { return api.Msg{Chain: []api.Member{}} }} {
		m := base()
		ls := lists(reflect.ValueOf(m))
		var was []any
		for _, l := range ls {
			was = append(was, copied(l))
		}
		b := msg.Put(m)
		msg.PutImage(nil, m.Image)
		msg.PutViews(row(1), m.Views)
		for i, l := range ls {
			if now := copied(l); !reflect.DeepEqual(now, was[i]) {
				t.Errorf("a list of %+v is now %+v", was[i], now)
			}
		}
		if !bytes.Equal(b, ofMsg(base()).bytes()) {
			t.Errorf("%+v is written as %s", m, brief(b))
		}
	}
}

func TestP6_3WhatIsReadFromStays(t *testing.T) {
	for _, x := range few() {
		memory := join(row(3, 128), x.bytes(), row(255, 1, 0))
		was := bytes.Clone(memory)
		b := memory[:len(memory)-2]
		for _, at := range []int{0, 1, 2, 3, len(b) - 1, len(b)} {
			for _, k := range []kind{messages, images, viewLists} {
				k.get(b, at)
				k.get(b[:len(b)-1], min(at, len(b)-1))
			}
		}
		if !bytes.Equal(memory, was) {
			t.Fatalf("%v: once it was read, it is %s", x, brief(memory))
		}
	}
}

// P6.3: what is answered is new memory.

func TestP6_3WhatIsReadIsNewMemory(t *testing.T) {
	for _, x := range things() {
		b := x.bytes()
		got := x.get(b, 0)
		for i := range b {
			b[i] ^= 85
		}
		if !same(got, answer{x.value, len(b), true}) {
			t.Fatalf("%v is another one once the bytes are others", x)
		}
	}
}

// wipe clears a list's items, up to the end of its memory.
func wipe(l reflect.Value) {
	whole := l.Slice(0, l.Cap())
	for i := range whole.Len() {
		whole.Index(i).SetZero()
	}
}

// TestP6_3NoTwoListsShareMemory clears each list of an answer by itself, with all its memory, and looks at the others. (A view's chain is a part of the list of views: there the views are looked at without it.)
func TestP6_3NoTwoListsShareMemory(t *testing.T) {
	for _, m := range []api.Msg{fullMsg(), oneMsg(), {Entries: entries(70), Chain: chain(70), Views: views(70), Image: api.Image{Log: entries(70), Seen: calls(70)}}} {
		b := msg.Put(m)
		first, _ := msg.Get(b)
		for i := range lists(reflect.ValueOf(first)) {
			got, ok := msg.Get(b)
			if !ok || !alike(got, m) {
				t.Fatalf("%+v is read as %+v", m, got)
			}
			ls := lists(reflect.ValueOf(got))
			wants := lists(reflect.ValueOf(plain(m)))
			wipe(ls[i])
			for j, l := range ls {
				if j != i && !bare(l, wants[j]) {
					t.Fatalf("once the list %d is cleared, the list %d is %+v, not %+v", i, j, l, wants[j])
				}
			}
		}
	}
}

// bare tells whether two lists are one, but for views' chains.
func bare(a, b reflect.Value) bool {
	return a.Len()+b.Len() == 0 || reflect.DeepEqual(unchained(a.Interface()), unchained(b.Interface()))
}

func unchained(list any) any {
	l, is := list.([]api.View)
	if !is {
		return list
	}
	l = slices.Clone(l)
	for i := range l {
		l[i].Chain = nil
	}
	return l
}

// TestP6_3AnswersShareNothing has one answer cleared, and looks at another one, and at what is read and written then.
func TestP6_3AnswersShareNothing(t *testing.T) {
	for _, x := range few() {
		b := x.put(nil, x.value)
		want := answer{x.value, len(b), true}
		first, second := x.get(b, 0), x.get(b, 0)
		for _, l := range lists(reflect.ValueOf(first.value)) {
			wipe(l)
		}
		if !same(second, want) || !same(x.get(b, 0), want) {
			t.Errorf("%v is another one once another answer is cleared", x)
		}
		again := x.put(nil, x.value)
		clear(b[:cap(b)])
		if !bytes.Equal(again, x.bytes()) || !bytes.Equal(x.put(nil, x.value), x.bytes()) {
			t.Errorf("%v is written otherwise once what was answered is cleared", x)
		}
	}
}

// TestP6_3WhatIsWrittenIsNewMemory changes what was written from.
func TestP6_3WhatIsWrittenIsNewMemory(t *testing.T) {
	m := fullMsg()
	all, image, views := msg.Put(m), msg.PutImage(nil, m.Image), msg.PutViews(nil, m.Views)
	for _, l := range lists(reflect.ValueOf(m)) {
		wipe(l)
	}
	if !bytes.Equal(all, ofMsg(fullMsg()).bytes()) || !bytes.Equal(image, ofImage(fullImage()).bytes()) || !bytes.Equal(views, ofViews(fullViews()).bytes()) {
		t.Error("what was written is other bytes once the message is another one")
	}
}

func TestP6_3NothingIsKept(t *testing.T) {
	var had [][]byte
	for _, x := range things() {
		had = append(had, x.put(nil, x.value))
	}
	for i, x := range things() {
		if !bytes.Equal(had[i], x.bytes()) {
			t.Fatalf("%v was written, and others behind it: it is now %s", x, brief(had[i]))
		}
	}
	for _, x := range few() {
		b := x.bytes()
		if !same(x.get(b, 0), answer{x.value, len(b), true}) {
			t.Errorf("%v is read otherwise once others were", x)
		}
		wantNone(t, x.kind, "half of the bytes, once all were read", b[:len(b)/2], 0)
	}
}

// P1: each call ends, and none panics: of what isn't right nothing else is promised, and what is answered isn't looked at.

func TestP1NoCallPanics(t *testing.T) {
	over := strings.Repeat("t", 3*api.MaxText)
	for _, x := range []float64{math.NaN(), math.Inf(1), math.Inf(-1), -1, 0.5, api.MaxCount + 1, math.MaxFloat64} {
		for _, v := range []api.Ver{api.Ver(complex(x, 1)), api.Ver(complex(1, x))} {
			msg.Put(api.Msg{Ver: v, Floor: v, Entries: []api.Entry{{Ver: v}}})
			msg.PutImage(nil, api.Image{Floor: v, Last: v, Log: []api.Entry{{Ver: v}}, Seen: []api.Seen{{Ver: v}}})
		}
	}
	n := 3 * api.MaxList
	msg.Put(api.Msg{Key: over, Val: over, Op: api.Op{Old: over}, Entries: entries(n), Chain: chain(n), Views: views(n)})
	msg.PutImage(row(1), api.Image{Log: entries(n), Seen: append(calls(n), api.Seen{Res: over})})
	msg.PutViews(row(1), append(views(n), api.View{Chain: chain(n)}))
	for _, b := range [][]byte{nil, {}, row(0), noughts(40), bytes.Repeat(row(2), 100), bytes.Repeat(row(128), 100), bytes.Repeat(row(255), 100)} {
		msg.Get(b)
		for _, at := range []int{math.MinInt, math.MinInt + 1, -1 << 32, -101, -50, -2, -1} {
			images.get(b, at)
			viewLists.get(b, at)
		}
		for at := range b {
			images.get(b, at)
			viewLists.get(b, at)
		}
	}
}
