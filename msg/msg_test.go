package msg_test

import (
	"bytes"
	"math"
	"reflect"
	"slices"
	"testing"

	"lockgate/api"
	"lockgate/msg"
	"lockgate/ver"
)

// P6.1: Put.

// zeroMsg is how many bytes the zero message has, all noughts.
const zeroMsg = 35

// noughtsBut is so many noughts, but that the bytes b stand at the place, instead of so many of these.
func noughtsBut(n, at, instead int, b []byte) []byte {
	return join(noughts(at), b, noughts(n-at-instead))
}

// writtenMsgs has messages of one field each, and where its bytes stand instead of how many noughts.
var writtenMsgs = []struct {
	m           api.Msg
	at, instead int
	b           []byte
}{
	{api.Msg{}, 0, 0, nil},
	{api.Msg{Kind: api.Open}, 0, 1, row(2)},
	{api.Msg{From: 100}, 1, 1, row(200, 1)},
	{api.Msg{To: 1}, 2, 1, row(2)},
	{api.Msg{Boot: -1}, 3, 1, row(1)},
	{api.Msg{SBoot: 64}, 4, 1, row(128, 1)},
	{api.Msg{Shard: 15}, 5, 1, row(30)},
	{api.Msg{Epoch: api.MaxCount}, 6, 1, row(128, 128, 128, 128, 128, 64)},
	{api.Msg{Gen: 3}, 7, 1, row(6)},
	{api.Msg{Sess: 63}, 8, 1, row(126)},
	{api.Msg{Num: -64}, 9, 1, row(127)},
	{api.Msg{A: math.MinInt}, 10, 1, row(255, 255, 255, 255, 255, 255, 255, 255, 255, 1)},
	{api.Msg{Code: math.MaxInt}, 11, 1, row(254, 255, 255, 255, 255, 255, 255, 255, 255, 1)},
	{api.Msg{Has: true}, 12, 1, row(1)},
	{api.Msg{Fresh: true}, 13, 1, row(1)},
	{api.Msg{Key: "key"}, 14, 1, row(6, 'k', 'e', 'y')},
	{api.Msg{Val: "\x00"}, 15, 1, row(2, 0)},
	{api.Msg{Ver: ver.Make(2, 5)}, 16, 2, row(4, 10)},
	{api.Msg{Floor: ver.Make(0, 100)}, 18, 2, row(0, 200, 1)},
	{api.Msg{Op: api.Op{Kind: api.Barrier}}, 20, 1, row(10)},
	{api.Msg{Op: api.Op{Key: "k"}}, 21, 1, row(2, 'k')},
	{api.Msg{Op: api.Op{Val: "v"}}, 22, 1, row(2, 'v')},
	{api.Msg{Op: api.Op{Old: "o"}}, 23, 1, row(2, 'o')},
	{api.Msg{Op: api.Op{HasOld: true}}, 24, 1, row(1)},
	{api.Msg{Entries: make([]api.Entry, 2)}, 25, 1, join(row(4), noughts(24))},
	{api.Msg{Entries: []api.Entry{{Ver: ver.Make(1, 2), Kind: 2, Key: "k", Val: "v", Write: true, Sess: 3, Num: 4, Code: 5, Res: "r", HasRes: true}}}, 25, 1,
		row(2, 2, 4, 4, 2, 'k', 2, 'v', 1, 0, 6, 8, 10, 2, 'r', 1)},
	{api.Msg{Chain: []api.Member{{}}}, 26, 1, row(2, 0, 0)},
	{api.Msg{Chain: []api.Member{{Node: 2, Boot: 1}, {Node: 3, Boot: -1}}}, 26, 1, row(4, 4, 2, 6, 1)},
	{api.Msg{Views: make([]api.View, 1)}, 27, 1, row(2, 0, 0, 0, 0, 0)},
	{api.Msg{Views: []api.View{{Shard: 1, Epoch: 2, Gen: 3, Phase: 4, Chain: []api.Member{{Node: 5, Boot: 6}}}}}, 27, 1, row(2, 2, 4, 6, 8, 2, 10, 12)},
	{api.Msg{Image: api.Image{Floor: ver.Make(3, 4)}}, 28, 2, row(6, 8)},
	{api.Msg{Image: api.Image{Last: ver.Make(5, 6)}}, 30, 2, row(10, 12)},
	{api.Msg{Image: api.Image{Gen: 7}}, 32, 1, row(14)},
	{api.Msg{Image: api.Image{Log: []api.Entry{{Del: true}}}}, 33, 1, row(2, 0, 0, 0, 0, 0, 0, 1, 0, 0, 0, 0, 0)},
	{api.Msg{Image: api.Image{Seen: []api.Seen{{Sess: 1, Num: 2, Ver: ver.Make(3, 4), Kind: 5, Code: 6, Res: "r", HasRes: true}}}}, 34, 1, row(2, 2, 4, 6, 8, 10, 12, 2, 'r', 1)},
}

func TestP6_1PutByExamples(t *testing.T) {
	for _, x := range writtenMsgs {
		want := noughtsBut(zeroMsg, x.at, x.instead, x.b)
		if b := msg.Put(x.m); !bytes.Equal(b, want) {
			t.Errorf("Put(%+v) = %v, not %v", x.m, b, want)
		}
	}
}

func TestP6_1PutOfTheChaptersExample(t *testing.T) {
	want := join(row(6, 200, 1, 2), noughts(zeroMsg-3))
	if b := msg.Put(api.Msg{Kind: 3, From: 100, To: 1}); !bytes.Equal(b, want) {
		t.Errorf("%v, not %v", b, want)
	}
}

// TestP6_1PutIsAllFields holds the tests to what they are for, too: each type has as many fields as the parts speak of.
func TestP6_1PutIsAllFields(t *testing.T) {
	m := onesMsg()
	// Each of the seven versions has two parts, and each of the six lists is one more.
	if n, parts := len(fields(reflect.ValueOf(&m).Elem())), len(partsOfMsg(m)); n+7+6 != parts {
		t.Errorf("%d fields, and %d parts", n, parts)
	}
	for _, x := range things() {
		if b := x.put(nil, x.value); !bytes.Equal(b, x.bytes()) {
			t.Fatalf("%v is written as %s", x, brief(b))
		}
	}
}

func TestP6_1EmptyListsAreWrittenAsNone(t *testing.T) {
	empty := api.Image{Log: []api.Entry{}, Seen: []api.Seen{}}
	m := api.Msg{Entries: []api.Entry{}, Chain: []api.Member{}, Views: []api.View{}, Image: empty}
	if b := msg.Put(m); !bytes.Equal(b, noughts(zeroMsg)) {
		t.Error(b)
	}
	if b := msg.PutImage(nil, empty); !bytes.Equal(b, noughts(7)) {
		t.Error(b)
	}
	for _, l := range [][]api.View{nil, {}} {
		if b := msg.PutViews(nil, l); !bytes.Equal(b, row(0)) {
			t.Error(b)
		}
	}
	for _, c := range [][]api.Member{nil, {}} {
		if b := msg.PutViews(nil, []api.View{{Chain: c}}); !bytes.Equal(b, row(2, 0, 0, 0, 0, 0)) {
			t.Error(b)
		}
	}
}

func TestP6_1MinusNoughtIsNought(t *testing.T) {
	x := math.Copysign(0, -1)
	v := api.Ver(complex(x, x))
	m := api.Msg{Ver: v, Floor: v, Image: api.Image{Floor: v, Last: v}}
	if b := msg.Put(m); !bytes.Equal(b, noughts(zeroMsg)) {
		t.Error(b)
	}
	if b := msg.PutImage(nil, api.Image{Seen: []api.Seen{{Ver: v}}}); !bytes.Equal(b, noughtsBut(7, 6, 1, row(2, 0, 0, 0, 0, 0, 0, 0, 0))) {
		t.Error(b)
	}
}

// P6.1: PutImage, PutViews.

// writtenImages and writtenViews have all the bytes written out.
var writtenImages = []struct {
	x    api.Image
	want []byte
}{
	{api.Image{}, row(0, 0, 0, 0, 0, 0, 0)},
	{api.Image{Floor: ver.Make(2, 5)}, row(4, 10, 0, 0, 0, 0, 0)},
	{api.Image{Last: ver.Make(2, 5)}, row(0, 0, 4, 10, 0, 0, 0)},
	{api.Image{Gen: -65}, row(0, 0, 0, 0, 129, 1, 0, 0)},
	{api.Image{Log: make([]api.Entry, 1)}, row(0, 0, 0, 0, 0, 2, 0, 0, 0, 0, 0, 0, 0, 0, 0, 0, 0, 0, 0)},
	{api.Image{Seen: make([]api.Seen, 2)}, row(0, 0, 0, 0, 0, 0, 4, 0, 0, 0, 0, 0, 0, 0, 0, 0, 0, 0, 0, 0, 0, 0, 0)},
	{api.Image{Seen: []api.Seen{{Sess: 1}}}, row(0, 0, 0, 0, 0, 0, 2, 2, 0, 0, 0, 0, 0, 0, 0)},
	{api.Image{Seen: []api.Seen{{Num: 1}}}, row(0, 0, 0, 0, 0, 0, 2, 0, 2, 0, 0, 0, 0, 0, 0)},
	{api.Image{Seen: []api.Seen{{Ver: ver.Make(1, 64)}}}, row(0, 0, 0, 0, 0, 0, 2, 0, 0, 2, 128, 1, 0, 0, 0, 0)},
	{api.Image{Seen: []api.Seen{{Kind: 1}}}, row(0, 0, 0, 0, 0, 0, 2, 0, 0, 0, 0, 2, 0, 0, 0)},
	{api.Image{Seen: []api.Seen{{Code: 1}}}, row(0, 0, 0, 0, 0, 0, 2, 0, 0, 0, 0, 0, 2, 0, 0)},
	{api.Image{Seen: []api.Seen{{Res: "rr"}}}, row(0, 0, 0, 0, 0, 0, 2, 0, 0, 0, 0, 0, 0, 4, 'r', 'r', 0)},
	{api.Image{Seen: []api.Seen{{HasRes: true}}}, row(0, 0, 0, 0, 0, 0, 2, 0, 0, 0, 0, 0, 0, 0, 1)},
	{api.Image{Floor: ver.Make(1, 1), Last: ver.Make(1, 3), Gen: 4, Log: []api.Entry{
		{Ver: ver.Make(1, 2), Kind: api.Put, Key: "a", Val: "b", Write: true, Sess: 5, Num: 6},
		{Ver: ver.Make(1, 3), Kind: api.Get, Key: "a", Sess: 7, Num: 8, Res: "b", HasRes: true},
	}, Seen: []api.Seen{{Sess: 5, Num: 6, Ver: ver.Make(1, 2), Kind: api.Put}, {Sess: 7, Num: 8, Ver: ver.Make(1, 3), Kind: api.Get, Res: "b", HasRes: true}}},
		row(2, 2, 2, 6, 8,
			4, 2, 4, 4, 2, 'a', 2, 'b', 1, 0, 10, 12, 0, 0, 0,
			2, 6, 2, 2, 'a', 0, 0, 0, 14, 16, 0, 2, 'b', 1,
			4, 10, 12, 2, 4, 4, 0, 0, 0, 14, 16, 2, 6, 2, 0, 2, 'b', 1)},
}

var writtenViews = []struct {
	l    []api.View
	want []byte
}{
	{nil, row(0)},
	{make([]api.View, 1), row(2, 0, 0, 0, 0, 0)},
	{make([]api.View, 3), row(6, 0, 0, 0, 0, 0, 0, 0, 0, 0, 0, 0, 0, 0, 0, 0)},
	{[]api.View{{Shard: 1}}, row(2, 2, 0, 0, 0, 0)},
	{[]api.View{{Epoch: 100}}, row(2, 0, 200, 1, 0, 0, 0)},
	{[]api.View{{Gen: -1}}, row(2, 0, 0, 1, 0, 0)},
	{[]api.View{{Phase: api.Active}}, row(2, 0, 0, 0, 6, 0)},
	{[]api.View{{Chain: make([]api.Member, 2)}}, row(2, 0, 0, 0, 0, 4, 0, 0, 0, 0)},
	{[]api.View{{Chain: []api.Member{{Node: 2}, {Boot: 3}}}}, row(2, 0, 0, 0, 0, 4, 4, 0, 0, 6)},
	{[]api.View{{Shard: 1, Epoch: 2, Gen: 3, Phase: 1, Chain: []api.Member{{Node: 3, Boot: 3}}}}, row(2, 2, 4, 6, 2, 2, 6, 6)},
	{[]api.View{{Shard: 1, Chain: []api.Member{{Node: 4, Boot: 5}}}, {Shard: 2, Phase: 3}, {Shard: 3, Chain: []api.Member{{Node: 6, Boot: 7}}}},
		row(6, 2, 0, 0, 0, 2, 8, 10, 4, 0, 0, 6, 0, 6, 0, 0, 0, 2, 12, 14)},
}

func TestP6_1PutImageAndPutViewsByExamples(t *testing.T) {
	for _, out := range [][]byte{nil, {}, row(9), row(128, 255)} {
		for _, x := range writtenImages {
			want := join(out, x.want)
			if b := msg.PutImage(slices.Clip(bytes.Clone(out)), x.x); !bytes.Equal(b, want) {
				t.Errorf("PutImage(%v, %+v) = %v, not %v", out, x.x, b, want)
			}
		}
		for _, x := range writtenViews {
			want := join(out, x.want)
			if b := msg.PutViews(slices.Clip(bytes.Clone(out)), x.l); !bytes.Equal(b, want) {
				t.Errorf("PutViews(%v, %+v) = %v, not %v", out, x.l, b, want)
			}
		}
	}
}

// outs has what may be written behind: nothing, bytes, and either with room left, which has bytes of others in it.
func outs() map[string][]byte {
	room := bytes.Repeat(row(170), 1<<20)
	some := row(7, 128, 0, 255, 1)
	return map[string][]byte{
		"nil":                              nil,
		"an empty out":                     {},
		"an empty out with room":           bytes.Clone(room)[:0],
		"bytes":                            slices.Clip(bytes.Clone(some)),
		"bytes with room for one":          bytes.Clone(room)[:5:6],
		"bytes with room for a part":       bytes.Clone(room)[:5:40],
		"bytes with room for all":          bytes.Clone(room)[:5],
		"bytes that another one may begin": row(128),
		"many bytes":                       bytes.Repeat(some, 100),
	}
}

func TestP6_1PutImageAndPutViewsBehindEachOut(t *testing.T) {
	for name, out := range outs() {
		for _, x := range openThings() {
			b := x.put(out, x.value)
			if all := x.bytes(); !bytes.HasPrefix(b, out) || !bytes.Equal(b[len(out):], all) {
				t.Fatalf("%v, behind %s: %s", x, name, brief(b))
			}
		}
	}
}

func TestP6_1PutOneBehindTheOther(t *testing.T) {
	var b, want []byte
	for _, x := range openThings() {
		b = x.put(b, x.value)
		want = append(want, x.bytes()...)
	}
	if !bytes.Equal(b, want) {
		t.Errorf("%d bytes, not the %d of one behind the other", len(b), len(want))
	}
}

// P6.1: Get.

func TestP6_1GetByExamples(t *testing.T) {
	for _, x := range writtenMsgs {
		b := noughtsBut(zeroMsg, x.at, x.instead, x.b)
		if m, ok := msg.Get(b); !ok || !alike(m, x.m) {
			t.Errorf("Get(%v) = %+v, %v, not %+v", b, m, ok, x.m)
		}
	}
	b := join(row(6, 200, 1, 2), noughts(zeroMsg-3))
	if m, ok := msg.Get(b); !ok || !alike(m, api.Msg{Kind: 3, From: 100, To: 1}) {
		t.Errorf("Get(%v) = %+v, %v", b, m, ok)
	}
}

func TestP6_1NoughtsAreAMessageOnlyWhereTheyAreJustEnough(t *testing.T) {
	for n := range 100 {
		m, ok := msg.Get(noughts(n))
		if ok != (n == zeroMsg) || !alike(m, api.Msg{}) {
			t.Errorf("%d noughts: %+v, %v", n, m, ok)
		}
	}
}

// P6.1: GetImage, GetViews.

func TestP6_1GetImageAndGetViewsByExamples(t *testing.T) {
	for _, ahead := range around() {
		for _, behind := range around() {
			for _, x := range writtenImages {
				b := join(ahead, x.want, behind)
				got, at, ok := msg.GetImage(b, len(ahead))
				if !alike(got, x.x) || at != len(ahead)+len(x.want) || !ok {
					t.Errorf("GetImage(%v, %d) = %+v, %d, %v, not %+v", b, len(ahead), got, at, ok, x.x)
				}
			}
			for _, x := range writtenViews {
				b := join(ahead, x.want, behind)
				got, at, ok := msg.GetViews(b, len(ahead))
				if !alike(got, x.l) || at != len(ahead)+len(x.want) || !ok {
					t.Errorf("GetViews(%v, %d) = %+v, %d, %v, not %+v", b, len(ahead), got, at, ok, x.l)
				}
			}
		}
	}
}

func TestP6_1LastPlaceWhereOneStands(t *testing.T) {
	b := noughts(40)
	for at := range b {
		want := images.none
		if at <= 33 {
			want = answer{api.Image{}, at + 7, true}
		}
		if got := images.get(b, at); !same(got, want) {
			t.Errorf("an image at %d of 40 noughts: %+v", at, got)
		}
		if got := viewLists.get(b, at); !same(got, answer{[]api.View(nil), at + 1, true}) {
			t.Errorf("views at %d of 40 noughts: %+v", at, got)
		}
	}
}

// P6.1: bytes of which nothing stands anywhere.

// wantNone asks that nothing of the kind stands in b at the place, and that nothing, 0 and false are told.
func wantNone(t *testing.T, k kind, what string, b []byte, at int) {
	t.Helper()
	if got := k.get(b, at); !same(got, k.none) {
		t.Fatalf("%s: no %s stands at %d of %s; told: behind %d, %v, nothing: %v", what, k.name, at, brief(b), got.behind, got.ok, alike(got.value, k.none.value))
	}
}

// wantNoneAnywhere asks it with other bytes around, where the kind may have these. (No byte behind may complete what is asked for.)
func wantNoneAnywhere(t *testing.T, k kind, what string, b []byte) {
	t.Helper()
	for _, ahead := range k.ahead {
		for _, behind := range k.behind {
			wantNone(t, k, what, join(ahead, b, behind), len(ahead))
		}
	}
}

func TestP6_1PlacesAtTheEndAndPastIt(t *testing.T) {
	for _, k := range []kind{images, viewLists} {
		for _, b := range [][]byte{nil, {}, row(0), noughts(7), noughts(100), make([]byte, 5, 100), row(128)} {
			for _, past := range []int{0, 1, 2, 7, 50} {
				wantNone(t, k, "past the end", b, len(b)+past)
			}
			for _, at := range []int{1 << 31, 1 << 32, 1 << 62, math.MaxInt - 1, math.MaxInt} {
				wantNone(t, k, "far past the end", b, at)
			}
		}
	}
}

// cuts has each length below that of the bytes; of many bytes, those near to either end, and some between.
func cuts(b []byte) []int {
	var l []int
	for n := range b {
		if len(b) < 2000 || n < 60 || n >= len(b)-60 || n%20011 == 0 {
			l = append(l, n)
		}
	}
	return l
}

func TestP6_1BytesThatBreakOff(t *testing.T) {
	for _, x := range append(few(), ofMsg(oneMsg())) {
		b := x.bytes()
		for _, n := range cuts(b) {
			wantNone(t, x.kind, "cut off", b[:n:n], 0)
			// What lies in the memory behind the end isn't there.
			wantNone(t, x.kind, "cut off, the rest behind", b[:n], 0)
			wantNone(t, x.kind, "cut off, bytes ahead", join(row(9, 128, 0), b[:n]), 3)
		}
	}
	for _, x := range things() {
		b := x.bytes()
		for _, n := range []int{0, len(b) / 3, len(b) / 2, len(b) - 1} {
			wantNone(t, x.kind, "cut off", b[:n:n], 0)
		}
	}
}

func TestP6_1LongListsThatBreakOff(t *testing.T) {
	l := []thing{ofImage(api.Image{Log: entries(api.MaxList)}), ofImage(api.Image{Seen: calls(api.MaxList)}), ofViews(views(api.MaxList)), ofViews([]api.View{{Chain: chain(api.MaxList)}}), ofMsg(api.Msg{Entries: entries(api.MaxList)})}
	for _, x := range l {
		b := x.bytes()
		for _, n := range cuts(b) {
			wantNone(t, x.kind, "cut off", b[:n:n], 0)
		}
	}
}

func TestP6_1MessagesWithBytesMore(t *testing.T) {
	for _, x := range few()[:3] {
		for i := range 256 {
			wantNone(t, messages, "a byte more", join(x.bytes(), row(byte(i))), 0)
			wantNone(t, messages, "a byte more ahead", join(row(byte(i)), x.bytes(), row(0)), 0)
		}
		for n := 2; n < 100; n++ {
			wantNone(t, messages, "bytes more", join(x.bytes(), noughts(n)), 0)
		}
		wantNone(t, messages, "twice", join(x.bytes(), x.bytes()), 0)
	}
	for _, x := range things() {
		if x.name == messages.name {
			wantNone(t, messages, "a nought more", append(x.bytes(), 0), 0)
		}
	}
}

// long is a number's bytes, in n bytes more than it needs.
func long(b []byte, n int) []byte {
	b = bytes.Clone(b)
	b[len(b)-1] |= 128
	b = append(b, bytes.Repeat(row(128), n)...)
	b[len(b)-1] = 0
	return b
}

// wrongPart asks that nothing stands where a part of one of the kinds has each of the wrong bytes: in each such field, that of each item too, of the few things. All else is as it must be, so that it is that part that is wrong.
func wrongPart(t *testing.T, what string, wrong func(p part) [][]byte, kinds ...string) {
	t.Helper()
	had := map[string]int{}
	for _, x := range few() {
		for i, p := range x.parts {
			if !slices.Contains(kinds, p.kind) {
				continue
			}
			for _, b := range wrong(p) {
				had[x.name]++
				wantNoneAnywhere(t, x.kind, what+" in "+p.name, x.with(i, b))
			}
		}
	}
	// This holds the test to what it is for: there are such fields.
	if had[messages.name] == 0 || had[images.name] == 0 {
		t.Errorf("%s: %v", what, had)
	}
}

func TestP6_1NumbersInMoreBytesThanTheyNeed(t *testing.T) {
	wrongPart(t, "a number in more bytes than it needs", func(p part) [][]byte {
		l := [][]byte{long(p.bytes, 1), long(p.bytes, 2), long(p.bytes, 9)}
		if p.kind != isLength {
			l = append(l, long(told(0), 1), long(told(-1), 1), long(told(100), 1), long(told(math.MaxInt), 1), long(told(math.MinInt), 1))
		}
		return l
	}, isNumber, isCount, isLength)
}

func TestP6_1NumbersOfMoreThan64Bits(t *testing.T) {
	wrongPart(t, "a number of more than 64 bits", func(p part) [][]byte {
		return [][]byte{join(bytes.Repeat(row(128), 9), row(2)), join(bytes.Repeat(row(255), 9), row(3)), join(bytes.Repeat(row(128), 10), row(1)), join(bytes.Repeat(row(255), 19), row(1))}
	}, isNumber, isCount, isLength)
}

func TestP6_1VersionsThatAreNone(t *testing.T) {
	wrongPart(t, "a number that no version has", func(p part) [][]byte {
		var l [][]byte
		for _, n := range []int{-1, -2, -api.MaxCount, math.MinInt, api.MaxCount + 1, 2 * api.MaxCount, 1 << 62, math.MaxInt} {
			l = append(l, told(n))
		}
		return l
	}, isCount)
}

func TestP6_1TruthsOfOtherBytes(t *testing.T) {
	wrongPart(t, "a truth that is none", func(p part) [][]byte {
		l := make([][]byte, 0, 254)
		for x := 2; x < 256; x++ {
			l = append(l, row(byte(x)))
		}
		return l
	}, isTruth)
}

func TestP6_1LengthsOfTextsBelowNought(t *testing.T) {
	wrongPart(t, "a length below 0", func(p part) [][]byte {
		return [][]byte{told(-1), told(-2), told(-65), told(-api.MaxText), told(math.MinInt)}
	}, isText)
}

func TestP6_1TextsLongerThanMaxText(t *testing.T) {
	wrongPart(t, "a text longer than MaxText", func(p part) [][]byte {
		l := [][]byte{told(1 << 31), told(1 << 32), told(math.MaxInt)}
		for _, n := range []int{api.MaxText + 1, api.MaxText + 64} {
			l = append(l, join(told(n), noughts(n)))
		}
		return l
	}, isText)
}

func TestP6_1TextsLongerThanWhatIsThere(t *testing.T) {
	for _, x := range few() {
		for i, p := range x.parts {
			if p.kind != isText {
				continue
			}
			rest := x.rest(i)
			// A text that takes all that is left leaves none for the truth that stands behind each.
			for _, n := range []int{rest, rest + 1, rest + 2, rest + 64, api.MaxText - 1, api.MaxText} {
				b := x.with(i, told(n))
				wantNone(t, x.kind, "a text longer than what is there in "+p.name, b, 0)
				wantNone(t, x.kind, "the same, bytes ahead", join(noughts(100), b), 100)
				wantNone(t, x.kind, "the same, bytes in the memory behind", join(b, noughts(2*api.MaxText))[:len(b)], 0)
			}
		}
	}
}

// TestP6_1ListsOfFewerThanNone is of empty lists, too: there a number below 0 would do as 0 does, if its bound weren't kept.
func TestP6_1ListsOfFewerThanNone(t *testing.T) {
	wrongPart(t, "a list's number below 0", func(p part) [][]byte {
		return [][]byte{told(-1), told(-2), told(-64), told(-65), told(-api.MaxList), told(-api.MaxList - 1), told(-1 << 32), told(math.MinInt)}
	}, isLength)
}

// TestP6_1ListsBeyondMaxList has as many items as the number says, or far too few.
func TestP6_1ListsBeyondMaxList(t *testing.T) {
	wrongPart(t, "a list's number beyond MaxList", func(p part) [][]byte {
		l := [][]byte{told(1 << 20), told(1 << 31), told(1 << 32), told(1<<32 + 1), told(1 << 62), told(math.MaxInt)}
		for _, n := range []int{api.MaxList + 1, api.MaxList + 2, 2 * api.MaxList} {
			l = append(l, told(n), join(told(n), noughts((n-p.items)*p.least)))
		}
		return l
	}, isLength)
}

// TestP6_1ListsOfMaxListStand holds the test above to what it is for: with MaxList items the same bytes are right.
func TestP6_1ListsOfMaxListStand(t *testing.T) {
	for _, x := range few() {
		for i, p := range x.parts {
			if p.kind != isLength {
				continue
			}
			b := x.with(i, join(told(api.MaxList), noughts((api.MaxList-p.items)*p.least)))
			got := x.get(b, 0)
			if !got.ok || got.behind != len(b) || !bytes.Equal(x.put(nil, got.value), b) {
				t.Errorf("MaxList items in %s of %v: behind %d of %d, %v", p.name, x, got.behind, len(b), got.ok)
			}
		}
	}
}

func TestP6_1ListsOfMoreItemsThanStandThere(t *testing.T) {
	for _, x := range few() {
		for i, p := range x.parts {
			if p.kind != isLength {
				continue
			}
			// Each item has at least one byte.
			rest := x.rest(i)
			for _, n := range []int{rest + 1, rest + 2, rest + 64, api.MaxList - 1, api.MaxList} {
				b := x.with(i, told(n))
				wantNone(t, x.kind, "more items than stand there in "+p.name, b, 0)
				wantNone(t, x.kind, "the same, bytes ahead", join(noughts(100), b), 100)
				wantNone(t, x.kind, "the same, bytes in the memory behind", join(b, noughts(20*api.MaxList))[:len(b)], 0)
			}
		}
	}
}

// TestP6_1OneItemMoreThanStandsThere is of lists behind whose items nothing stands.
func TestP6_1OneItemMoreThanStandsThere(t *testing.T) {
	last := map[string][]string{messages.name: {"Image's Seen"}, images.name: {"Seen"}, viewLists.name: {"Views", "Views 1's Chain"}}
	had := 0
	for _, x := range few() {
		for i, p := range x.parts {
			if !slices.Contains(last[x.name], p.name) {
				continue
			}
			had++
			for _, more := range []int{1, 2, 3} {
				wantNone(t, x.kind, "more items than stand there in "+p.name, x.with(i, told(p.items+more)), 0)
			}
		}
	}
	// This holds the test to what it is for: the last view of the full ones has a last list of its own.
	if had != 10 {
		t.Errorf("%d lists behind which nothing stands", had)
	}
}
