package seen_test

import (
	"fmt"
	"slices"
	"testing"

	"lockgate/api"
	"lockgate/seen"
)

// P14.3: what is handed in stays, what is answered is new memory.

// roomy has the list's calls, and others in the room behind it.
func roomy(l []api.Seen) []api.Seen {
	behind := append(slices.Clone(l), list("1.70:behind 5.71:behind 99.72:behind 0.0")...)
	return behind[:len(l):len(behind)]
}

// memory is all of a list's: what there is room for, too.
func memory(l []api.Seen) []api.Seen { return slices.Clone(l[:cap(l)]) }

// over writes over a list, and over what there is room for behind it.
func over(l []api.Seen) {
	l = l[:cap(l)]
	for i := range l {
		l[i] = api.Seen{Sess: 1000 + i, Num: 99, Ver: v(99, 99), Kind: 9, Code: 9, Res: "written over", HasRes: true}
	}
}

// deed is a call that is put to a list; it tells itself only where it is asked.
type deed struct {
	l []api.Seen
	s api.Seen
}

func (d deed) String() string { return fmt.Sprintf("Put(%s, %s)", told(d.l), one(d.s)) }

func (d deed) want() []api.Seen {
	m := of(d.l)
	m.put(d.s)
	return m.list()
}

// puts are calls that are new, the same and old, at the front, in between and at the end.
func puts() []api.Seen {
	return list("5.3:newer 5.2:same 5.1:older 2.4:newer 2.3:same 2.2:older 9.2:newer 9.1:same 9.0:older 1.1:front 3.1:between 7.1:between 20.1:end 0.0 -4.2:front least.7:x most.least:x 30.5:x")
}

// each puts each call to each list: to those of no, of one and of some calls.
func each(do func(d deed)) {
	for _, l := range [][]api.Seen{nil, list("5.2:c"), list("2.3:b"), list("2.3:b 5.2:c"), list("2.3:b 5.2:c 9.1:d"), list("2.3:b 5.2:c 7.0:e 9.1:d"), many(16), many(17), many(64)} {
		for _, s := range puts() {
			do(deed{l, s})
		}
	}
}

func TestP14_3WhatIsHandedInStays(t *testing.T) {
	each(func(d deed) {
		l := roomy(d.l)
		was := memory(l)
		wantList(t, d, seen.Put(l, d.s), d.want())
		wantList(t, fmt.Sprint(d, ", what was handed in"), memory(l), was)
		seen.Find(l, d.s.Sess)
		seen.Verdict(l, d.s.Sess, d.s.Num)
		wantList(t, fmt.Sprint(d, ", what was handed in to be asked"), memory(l), was)
	})
}

// TestP14_3WhatIsAnsweredIsNew writes over what was answered: nothing of what was handed in turns, nor another answer.
func TestP14_3WhatIsAnsweredIsNew(t *testing.T) {
	each(func(d deed) {
		l := roomy(d.l)
		was := memory(l)
		for _, s := range puts() {
			other := seen.Put(l, s)
			over(seen.Put(l, d.s))
			wantList(t, fmt.Sprint(d, ", written over: what was handed in"), memory(l), was)
			wantList(t, fmt.Sprint(d, ", written over: another answer"), other, deed{d.l, s}.want())
		}
	})
}

// TestP14_3AppendedTo appends to what was answered: neither it nor what was handed in, nor what stands behind that, turns.
func TestP14_3AppendedTo(t *testing.T) {
	each(func(d deed) {
		l := roomy(d.l)
		was := memory(l)
		got := seen.Put(l, d.s)
		for n := range 5 {
			longer := append(got, many(n)...)
			wantList(t, fmt.Sprint(d, ", appended to: what was handed in"), memory(l), was)
			wantList(t, fmt.Sprint(d, ", appended to"), got, d.want())
			wantList(t, fmt.Sprint(d, ", what was appended"), longer[len(got):], many(n))
		}
	})
}

// TestP14_3NothingIsKept writes over what was handed in, and over what there is room for behind it.
func TestP14_3NothingIsKept(t *testing.T) {
	each(func(d deed) {
		l := roomy(d.l)
		got := seen.Put(l, d.s)
		found, there := seen.Find(l, d.s.Sess)
		over(l)
		wantList(t, d, got, d.want())
		if s, ok := of(d.l)[d.s.Sess]; found != s || there != ok {
			t.Fatalf("%v: found is %s, %v", d, one(found), there)
		}
	})
}

// TestP14_3AnswersGoOn hands an answer in twice: the one call doesn't stand in the other's list.
func TestP14_3AnswersGoOn(t *testing.T) {
	each(func(d deed) {
		l := seen.Put(roomy(d.l), d.s)
		for _, at := range []int{-500, 4, 500} {
			x, y := call(at, 1, "x"), call(at+1, 1, "y")
			first, second := seen.Put(l, x), seen.Put(l, y)
			wantList(t, fmt.Sprint(d, ", the first"), first, deed{d.want(), x}.want())
			over(first)
			wantList(t, fmt.Sprint(d, ", the second"), second, deed{d.want(), y}.want())
			wantList(t, fmt.Sprint(d, ", the list"), l, d.want())
		}
	})
}

// TestP14_3NothingToDo: where Put changes nothing, the list is another one all the same.
func TestP14_3NothingToDo(t *testing.T) {
	each(func(d deed) {
		for _, s := range d.l {
			for _, num := range []int{s.Num, s.Num - 1, s.Num - 1000} {
				l := roomy(d.l)
				was := memory(l)
				got := seen.Put(l, call(s.Sess, num, "nothing"))
				wantList(t, "nothing to do", got, d.l)
				over(got)
				wantList(t, "nothing to do, what was handed in", memory(l), was)
				got = seen.Put(l, call(s.Sess, num, "nothing"))
				over(l)
				wantList(t, "nothing to do, what was answered", got, d.l)
			}
		}
	})
}

// TestP14_3SameAtEachCall has it that nothing but the arguments matters: what is called between, and how much room there is behind the list.
func TestP14_3SameAtEachCall(t *testing.T) {
	each(func(d deed) {
		first := seen.Put(slices.Clip(slices.Clone(d.l)), d.s)
		for _, s := range puts() {
			over(seen.Put(roomy(d.l), s))
		}
		wantList(t, d, seen.Put(roomy(d.l), d.s), first)
		wantFound(t, roomy(first), d.s.Sess, of(first)[d.s.Sess], true)
	})
}

// TestP14_3WalkWrittenOver goes on with what was answered, and writes over what it leaves behind, with what there is room for.
func TestP14_3WalkWrittenOver(t *testing.T) {
	c := chance(7)
	for walk := range 10 {
		m := model{}
		l := roomy(nil)
		for i := range 400 {
			got := wantPut(t, fmt.Sprint("walk ", walk, ", step ", i), l, c.call(30, 10), m)
			over(l)
			wantAll(t, fmt.Sprint("walk ", walk, ", step ", i), got, m)
			l = got
		}
	}
}
