package lru_test

import (
	"fmt"
	"testing"

	"lockgate/api"
	"lockgate/lru"
)

// P12.3: what is handed in stays, what is answered is new memory.

// roomy has the model's items, and others in the room behind the list.
func roomy(m model) []api.Item {
	l := append(m.clone(), list("behind:1@70 a:2@71 :3@72")...)
	return l[:len(m):len(l)]
}

// whole is all of a list's memory: what there is room for, too.
func whole(l []api.Item) model { return model(l[:cap(l)]).clone() }

// over writes over a list, and over what there is room for behind it.
func over(l []api.Item) {
	l = l[:cap(l)]
	for i := range l {
		l[i] = api.Item{Key: fmt.Sprint("over", i), Val: "written over", Has: true, Ver: 99}
	}
}

// stocks are lists of no, of one and of several items, some without texts.
func stocks() []model {
	return []model{
		list(""),
		list("a:x@3"),
		list(":@4"),
		list("b:y"),
		list("a:x@3 b:y@4"),
		list(":x@3 ab:@4 a:xx@5"),
		list("b:long.enough.to.go@3 a:x@4 c:z@5 ab:w@6 d:@7"),
		many(16),
		many(17),
	}
}

// deeds lay where there is room for all, some and nothing of what is there, get, and take out; some find nothing.
func deeds() []act {
	var l []act
	for _, x := range []string{"a:x@3", "a:new@8", "new:@8", ":@9", "b:as.long.as.all.that.stands.there@8"} {
		for _, room := range []int{-1, 0, 1, 4, 9, 30, 1 << 20} {
			l = append(l, put(x, room))
		}
	}
	for _, key := range []string{"a", "b", "ab", "", "z", "000000", "000016"} {
		l = append(l, get(key), out(key))
	}
	return l
}

// call is an act of a list; it tells itself only where it is asked.
type call struct {
	m model
	a act
}

func (c call) String() string { return fmt.Sprint(c.a, " of ", told(c.m)) }

// each calls with each list and each act.
func each(do func(c call)) {
	for _, m := range stocks() {
		for _, a := range deeds() {
			do(call{m, a})
		}
	}
}

func TestP12_3WhatIsHandedInStays(t *testing.T) {
	each(func(c call) {
		l := roomy(c.m)
		was := whole(l)
		c.a.on(l)
		lru.Size(l)
		wantList(t, fmt.Sprint(c, ", what was handed in"), whole(l), was)
	})
}

// TestP12_3NothingIsKept writes over what was handed in, and over what there is room for behind it.
func TestP12_3NothingIsKept(t *testing.T) {
	each(func(c call) {
		l := roomy(c.m)
		got := c.a.on(l)
		was := model(got.l).clone()
		over(l)
		wantList(t, c, got.l, was)
		want := c.m.clone()
		if x, ok := c.a.as(&want); got.x != x || got.ok != ok {
			t.Fatalf("%v: the item is %s, %v", c, one(got.x), got.ok)
		}
		wantList(t, c, got.l, want)
	})
}

// TestP12_3WhatIsAnsweredIsNew writes over what was answered: nothing of what was handed in turns, nor another answer.
func TestP12_3WhatIsAnsweredIsNew(t *testing.T) {
	each(func(c call) {
		for _, b := range deeds() {
			l := roomy(c.m)
			was := whole(l)
			other := b.on(l).l
			otherWas := model(other).clone()
			over(c.a.on(l).l)
			if !same(whole(l), was) || !same(other, otherWas) {
				t.Fatalf("%v, written over: what was handed in turned to %s, the answer of %v to %s", c, told(l), b, told(other))
			}
		}
	})
}

// TestP12_3AppendedTo appends to an answer twice: neither turns the other, nor the answer, nor what was handed in.
func TestP12_3AppendedTo(t *testing.T) {
	each(func(c call) {
		l := roomy(c.m)
		was := whole(l)
		got := c.a.on(l).l
		gotWas := model(got).clone()
		x, y := item("x", "first", 1), item("y", "second", 2)
		first := append(got, x)
		second := append(got, y)
		wantList(t, fmt.Sprint(c, ", the first"), first, append(gotWas.clone(), x))
		wantList(t, fmt.Sprint(c, ", the second"), second, append(gotWas.clone(), y))
		over(second)
		wantList(t, fmt.Sprint(c, ", what was answered"), got, gotWas)
		wantList(t, fmt.Sprint(c, ", what was handed in"), whole(l), was)
	})
}

// TestP12_3AnswersGoOn hands an answer in twice: the one call's items don't stand in the other's.
func TestP12_3AnswersGoOn(t *testing.T) {
	each(func(c call) {
		l := c.a.on(roomy(c.m)).l
		was := model(l).clone()
		for _, room := range []int{1 << 20, was.size() + 2} {
			x, y := item("x", "x", 1), item("y", "y", 2)
			first, second := lru.Put(l, x, room), lru.Put(l, y, room)
			want := was.clone()
			want.put(x, room)
			wantList(t, fmt.Sprint(c, ", the first"), first, want)
			over(first)
			want = was.clone()
			want.put(y, room)
			wantList(t, fmt.Sprint(c, ", the second"), second, want)
			wantList(t, fmt.Sprint(c, ", the list"), l, was)
		}
	})
}

// TestP12_3NothingToDo: where nothing is got, taken out or lost, the list is another one all the same.
func TestP12_3NothingToDo(t *testing.T) {
	for _, m := range stocks() {
		if len(m) == 0 {
			continue
		}
		for _, a := range []act{get("none"), out("none"), get(m[len(m)-1].Key), {puts, 1 << 20, m[len(m)-1]}} {
			l := roomy(m)
			got := a.on(l).l
			wantList(t, a, got, m)
			over(got)
			wantList(t, fmt.Sprint(a, ", what was handed in"), l, m)
			got = a.on(l).l
			over(l)
			wantList(t, fmt.Sprint(a, ", what was answered"), got, m)
		}
	}
}

// TestP12_3SameAtEachCall has it that nothing but the arguments matters: what is called between, and how much room there is behind the list.
func TestP12_3SameAtEachCall(t *testing.T) {
	each(func(c call) {
		first := c.a.on(c.m.clone())
		for _, b := range deeds() {
			over(b.on(roomy(c.m)).l)
		}
		again := c.a.on(roomy(c.m))
		wantList(t, c, again.l, model(first.l))
		if again.x != first.x || again.ok != first.ok {
			t.Fatalf("%v: once more it answers %s, %v", c, one(again.x), again.ok)
		}
	})
}

// TestP12_3WalkWrittenOver goes on with what was answered, and writes over what it leaves behind, with what there is room for.
func TestP12_3WalkWrittenOver(t *testing.T) {
	c := chance(8)
	for walk := range 10 {
		var m model
		l := roomy(m)
		for i := range 600 {
			a := c.act(12, 20+i/100*10, i)
			got := a.on(l)
			x, ok := a.as(&m)
			over(l)
			if got.x != x || got.ok != ok {
				t.Fatalf("walk %d, step %d: %v answers %s, %v; asked for is %s, %v", walk, i, a, one(got.x), got.ok, one(x), ok)
			}
			wantList(t, fmt.Sprint("walk ", walk, ", step ", i), got.l, m)
			l = got.l
		}
	}
}
