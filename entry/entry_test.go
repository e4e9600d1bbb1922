package entry_test

import (
	"bytes"
	"encoding/binary"
	"math"
	"slices"
	"strconv"
	"strings"
	"testing"

	"lockgate/api"
	"lockgate/entry"
	"lockgate/ver"
)

// told is a number's bytes as Go's own library has them, which knows nothing of the program.
func told(n int) []byte { return binary.AppendVarint(nil, int64(n)) }

// row is bytes in a row, written out.
func row(l ...byte) []byte { return l }

// join is lists of bytes, one behind the other, in memory of its own, without room behind.
func join(l ...[]byte) []byte { return slices.Clip(slices.Concat(l...)) }

// brief keeps what a failing test prints short.
func brief(b []byte) string {
	s := ""
	for _, x := range b[:min(len(b), 24)] {
		s += strconv.Itoa(int(x)) + " "
	}
	if len(b) > 24 {
		s += ".. (" + strconv.Itoa(len(b)) + " bytes)"
	}
	return s
}

// part is a field, or one of a version's two numbers: of what kind it is, and its bytes.
type part struct {
	kind, name string
	bytes      []byte
}

// The kinds of parts: counts are numbers from 0 to MaxCount.
const (
	isNumber = "number"
	isCount  = "count"
	isText   = "text"
	isTruth  = "truth"
)

func number(name string, n int) part { return part{isNumber, name, told(n)} }

func count(name string, x float64) part { return part{isCount, name, told(int(x))} }

func text(name, s string) part { return part{isText, name, join(told(len(s)), []byte(s))} }

func truth(name string, is bool) part {
	if is {
		return part{isTruth, name, row(1)}
	}
	return part{isTruth, name, row(0)}
}

func partsOfOp(o api.Op) []part {
	return []part{number("Kind", o.Kind), text("Key", o.Key), text("Val", o.Val), text("Old", o.Old), truth("HasOld", o.HasOld)}
}

func partsOfEntry(e api.Entry) []part {
	return []part{
		count("Ver's epoch", real(e.Ver)), count("Ver's number", imag(e.Ver)),
		number("Kind", e.Kind),
		text("Key", e.Key), text("Val", e.Val),
		truth("Write", e.Write), truth("Del", e.Del),
		number("Sess", e.Sess), number("Num", e.Num), number("Code", e.Code),
		text("Res", e.Res),
		truth("HasRes", e.HasRes),
	}
}

// answer is all that a Get tells.
type answer struct {
	value  any
	behind int
	ok     bool
}

// kind is operations, or entries: how they are read, what is answered where none stands, and how what was read is written.
type kind struct {
	name string
	get  func(b []byte, at int) answer
	none answer
	put  func(out []byte, value any) []byte
}

var ops = kind{"operation",
	func(b []byte, at int) answer {
		o, behind, ok := entry.GetOp(b, at)
		return answer{o, behind, ok}
	},
	answer{api.Op{}, 0, false},
	func(out []byte, value any) []byte { return entry.PutOp(out, value.(api.Op)) },
}

var entries = kind{"entry",
	func(b []byte, at int) answer {
		e, behind, ok := entry.Get(b, at)
		return answer{e, behind, ok}
	},
	answer{api.Entry{}, 0, false},
	func(out []byte, value any) []byte { return entry.Put(out, value.(api.Entry)) },
}

// thing is an operation or an entry, and its parts as the chapter has them.
type thing struct {
	kind
	value any
	parts []part
}

func ofOp(o api.Op) thing { return thing{ops, o, partsOfOp(o)} }

func ofEntry(e api.Entry) thing { return thing{entries, e, partsOfEntry(e)} }

// bytes is the thing's bytes, told without the program.
func (x thing) bytes() []byte { return x.with(-1, nil) }

// with is the thing's bytes, but for the part i, which has others.
func (x thing) with(i int, others []byte) []byte {
	var l [][]byte
	for j, p := range x.parts {
		if i == j {
			l = append(l, others)
		} else {
			l = append(l, p.bytes)
		}
	}
	return join(l...)
}

func (x thing) String() string { return "the " + x.name + " of " + brief(x.bytes()) }

// fields has pointers to all fields of one thing, by their types.
type fields struct {
	vers   []*api.Ver
	ints   []*int
	texts  []*string
	truths []*bool
}

func fieldsOfOp(o *api.Op) fields {
	return fields{nil, []*int{&o.Kind}, []*string{&o.Key, &o.Val, &o.Old}, []*bool{&o.HasOld}}
}

func fieldsOfEntry(e *api.Entry) fields {
	return fields{
		[]*api.Ver{&e.Ver},
		[]*int{&e.Kind, &e.Sess, &e.Num, &e.Code},
		[]*string{&e.Key, &e.Val, &e.Res},
		[]*bool{&e.Write, &e.Del, &e.HasRes},
	}
}

// Full things have no two fields of one type with one value, but for the truths: these come apart where one of them is another one.
var (
	fullOp    = api.Op{Kind: api.Swap, Key: "key", Val: "values", Old: "o", HasOld: true}
	fullEntry = api.Entry{Ver: ver.Make(2, 300), Kind: api.Delete, Key: "key", Val: "values", Write: true, Del: true, Sess: 70, Num: -1, Code: api.Other, Res: "re", HasRes: true}
)

// edgeInts has the least and the greatest int, and those at which a byte more is needed.
var edgeInts = []int{0, 1, -1, 2, 5, 63, 64, -64, -65, 8191, 8192, -8193, 1 << 31, 1 << 32, api.MaxText + 1, api.MaxCount, api.MaxCount + 1, 1<<62 - 1, 1 << 62, math.MaxInt - 1, math.MaxInt, math.MinInt, math.MinInt + 1}

// edgeCounts has the edges of a version's numbers.
var edgeCounts = []int{0, 1, 63, 64, 8192, 1 << 31, 1<<32 + 1, api.MaxCount - 1, api.MaxCount}

// edgeTexts has the empty one, one of MaxText bytes, those of any bytes, and those at whose lengths a byte more is needed.
func edgeTexts() []string {
	l := []string{"", "a", "ab", "\x00", "\x01\x00", "\x80", "\xff\xff", "\u00e9", "\u20ac uro", "\ufffd", "\x00\x00\x00\x00\x00\x00\x00\x00\x00\x00\x00\x00"}
	for _, n := range []int{63, 64, 8191, 8192, api.MaxText - 1, api.MaxText} {
		l = append(l, strings.Repeat("t", n))
	}
	return l
}

// put1 is base for each of the edges, with the field to which at points being it.
func put1[T, F any](base T, at func(x *T) *F, edges []F) []T {
	var l []T
	for _, edge := range edges {
		x := base
		*at(&x) = edge
		l = append(l, x)
	}
	return l
}

// varied is base with each of its fields, by itself, being each of the edges.
func varied[T any](base T, of func(x *T) fields) []T {
	l := []T{base}
	have := of(&base)
	var vers []api.Ver
	for _, epoch := range edgeCounts {
		for _, num := range edgeCounts {
			vers = append(vers, ver.Make(epoch, num))
		}
	}
	for i := range have.vers {
		l = append(l, put1(base, func(x *T) *api.Ver { return of(x).vers[i] }, vers)...)
	}
	for i := range have.ints {
		l = append(l, put1(base, func(x *T) *int { return of(x).ints[i] }, edgeInts)...)
	}
	for i := range have.texts {
		l = append(l, put1(base, func(x *T) *string { return of(x).texts[i] }, edgeTexts())...)
	}
	for i := range have.truths {
		l = append(l, put1(base, func(x *T) *bool { return of(x).truths[i] }, []bool{false, true})...)
	}
	return l
}

// allOps has the zero one and the full one, and either with each field by itself being each of the edges.
func allOps() []api.Op {
	full := strings.Repeat("f", api.MaxText)
	l := append(varied(api.Op{}, fieldsOfOp), varied(fullOp, fieldsOfOp)...)
	return append(l, api.Op{Kind: math.MinInt, Key: full, Val: full, Old: full, HasOld: true})
}

// allEntries is allOps, of entries.
func allEntries() []api.Entry {
	full := strings.Repeat("f", api.MaxText)
	l := append(varied(api.Entry{}, fieldsOfEntry), varied(fullEntry, fieldsOfEntry)...)
	return append(l, api.Entry{Ver: ver.Make(api.MaxCount, api.MaxCount), Kind: math.MinInt, Key: full, Val: full, Write: true, Del: true, Sess: math.MaxInt, Num: math.MinInt, Code: math.MaxInt, Res: full, HasRes: true})
}

func things() []thing {
	var l []thing
	for _, o := range allOps() {
		l = append(l, ofOp(o))
	}
	for _, e := range allEntries() {
		l = append(l, ofEntry(e))
	}
	return l
}

// few has the zero ones and the full ones.
func few() []thing {
	return []thing{ofOp(api.Op{}), ofOp(fullOp), ofEntry(api.Entry{}), ofEntry(fullEntry)}
}

// P5.1: PutOp, Put.

func TestP5_1PutOpByExamples(t *testing.T) {
	for _, x := range []struct {
		o    api.Op
		want []byte
	}{
		{api.Op{}, row(0, 0, 0, 0, 0)},
		{api.Op{Kind: api.Get}, row(2, 0, 0, 0, 0)},
		{api.Op{Kind: -1}, row(1, 0, 0, 0, 0)},
		{api.Op{Kind: 64}, row(128, 1, 0, 0, 0, 0)},
		{api.Op{Key: "k"}, row(0, 2, 'k', 0, 0, 0)},
		{api.Op{Val: "vv"}, row(0, 0, 4, 'v', 'v', 0, 0)},
		{api.Op{Old: "o"}, row(0, 0, 0, 2, 'o', 0)},
		{api.Op{HasOld: true}, row(0, 0, 0, 0, 1)},
		{api.Op{Kind: api.Put, Key: "k", Val: "v"}, row(4, 2, 'k', 2, 'v', 0, 0)},
		{api.Op{Kind: api.Swap, Key: "k", Old: "o", HasOld: true}, row(8, 2, 'k', 0, 2, 'o', 1)},
		{api.Op{Kind: api.Barrier, Key: "a", Val: "bb", Old: "ccc", HasOld: true}, row(10, 2, 'a', 4, 'b', 'b', 6, 'c', 'c', 'c', 1)},
	} {
		if b := entry.PutOp(nil, x.o); !bytes.Equal(b, x.want) {
			t.Errorf("PutOp(nil, %+v) = %v, not %v", x.o, b, x.want)
		}
	}
}

// writtenEntries has entries, and their bytes written out.
var writtenEntries = []struct {
	e    api.Entry
	want []byte
}{
	{api.Entry{}, row(0, 0, 0, 0, 0, 0, 0, 0, 0, 0, 0, 0)},
	{api.Entry{Ver: ver.Make(2, 5)}, row(4, 10, 0, 0, 0, 0, 0, 0, 0, 0, 0, 0)},
	{api.Entry{Ver: ver.Make(0, 64)}, row(0, 128, 1, 0, 0, 0, 0, 0, 0, 0, 0, 0, 0)},
	{api.Entry{Ver: ver.Make(api.MaxCount, 0)}, row(128, 128, 128, 128, 128, 64, 0, 0, 0, 0, 0, 0, 0, 0, 0, 0, 0)},
	{api.Entry{Kind: api.Barrier}, row(0, 0, 10, 0, 0, 0, 0, 0, 0, 0, 0, 0)},
	{api.Entry{Key: "k"}, row(0, 0, 0, 2, 'k', 0, 0, 0, 0, 0, 0, 0, 0)},
	{api.Entry{Val: "vv"}, row(0, 0, 0, 0, 4, 'v', 'v', 0, 0, 0, 0, 0, 0, 0)},
	{api.Entry{Write: true}, row(0, 0, 0, 0, 0, 1, 0, 0, 0, 0, 0, 0)},
	{api.Entry{Del: true}, row(0, 0, 0, 0, 0, 0, 1, 0, 0, 0, 0, 0)},
	{api.Entry{Sess: 7}, row(0, 0, 0, 0, 0, 0, 0, 14, 0, 0, 0, 0)},
	{api.Entry{Num: -1}, row(0, 0, 0, 0, 0, 0, 0, 0, 1, 0, 0, 0)},
	{api.Entry{Code: api.Gone}, row(0, 0, 0, 0, 0, 0, 0, 0, 0, 12, 0, 0)},
	{api.Entry{Res: "r"}, row(0, 0, 0, 0, 0, 0, 0, 0, 0, 0, 2, 'r', 0)},
	{api.Entry{HasRes: true}, row(0, 0, 0, 0, 0, 0, 0, 0, 0, 0, 0, 1)},
	{api.Entry{Ver: ver.Make(2, 3), Kind: api.Swap, Key: "k", Val: "vv", Write: true, Sess: 7, Num: -1, Code: api.Other, Res: "r", HasRes: true},
		row(4, 6, 8, 2, 'k', 4, 'v', 'v', 1, 0, 14, 1, 4, 2, 'r', 1)},
	{api.Entry{Ver: ver.Make(1, 2), Kind: 3, Key: "a", Val: "", Write: true, Del: true, Sess: 4, Num: 5, Code: 6, Res: "\x00", HasRes: true},
		row(2, 4, 6, 2, 'a', 0, 1, 1, 8, 10, 12, 2, 0, 1)},
	{api.Entry{Sess: math.MinInt, Num: math.MaxInt},
		row(0, 0, 0, 0, 0, 0, 0, 255, 255, 255, 255, 255, 255, 255, 255, 255, 1, 254, 255, 255, 255, 255, 255, 255, 255, 255, 1, 0, 0, 0)},
}

func TestP5_1PutByExamples(t *testing.T) {
	for _, x := range writtenEntries {
		if b := entry.Put(nil, x.e); !bytes.Equal(b, x.want) {
			t.Errorf("Put(nil, %+v) = %v, not %v", x.e, b, x.want)
		}
	}
}

func TestP5_1MinusNoughtIsNought(t *testing.T) {
	x := math.Copysign(0, -1)
	b := entry.Put(nil, api.Entry{Ver: api.Ver(complex(x, x))})
	if !bytes.Equal(b, make([]byte, 12)) {
		t.Error(b)
	}
}

// outs has what may be written behind: nothing, bytes, and either with room left, which has bytes of others in it.
func outs() map[string][]byte {
	room := bytes.Repeat(row(170), 4*api.MaxText)
	some := row(7, 128, 0, 255, 1)
	return map[string][]byte{
		"nil":                              nil,
		"an empty out":                     {},
		"an empty out with room":           bytes.Clone(room)[:0],
		"bytes":                            slices.Clip(bytes.Clone(some)),
		"bytes with room for one":          bytes.Clone(room)[:5:6],
		"bytes with room for a part":       bytes.Clone(room)[:5:9],
		"bytes with room for all":          bytes.Clone(room)[:5],
		"bytes that another one may begin": row(128),
		"many bytes":                       bytes.Repeat(some, 100),
	}
}

func TestP5_1PutBehindEachOut(t *testing.T) {
	l := things()
	for name, out := range outs() {
		for _, x := range l {
			want := join(out, x.bytes())
			if b := x.put(out, x.value); !bytes.Equal(b, want) {
				t.Fatalf("%v, behind %s: %s, not %s", x, name, brief(b), brief(want))
			}
		}
	}
}

func TestP5_1PutOneBehindTheOther(t *testing.T) {
	var b, want []byte
	for _, x := range things() {
		b = x.put(b, x.value)
		want = append(want, x.bytes()...)
	}
	if !bytes.Equal(b, want) {
		t.Errorf("%d bytes, not the %d of one behind the other", len(b), len(want))
	}
}

// P5.1: GetOp, Get.

func TestP5_1GetOpByExamples(t *testing.T) {
	for _, x := range []struct {
		b      []byte
		at     int
		want   api.Op
		behind int
	}{
		{row(0, 0, 0, 0, 0), 0, api.Op{}, 5},
		{row(0, 0, 0, 0, 0, 0, 0, 0), 3, api.Op{}, 8},
		{row(8, 2, 'k', 0, 2, 'o', 1), 0, api.Op{Kind: api.Swap, Key: "k", Old: "o", HasOld: true}, 7},
		{row(9, 9, 4, 2, 'k', 2, 'v', 0, 0, 9), 2, api.Op{Kind: api.Put, Key: "k", Val: "v"}, 9},
		{row(1, 0, 0, 4, 0, 255, 0), 0, api.Op{Kind: -1, Old: "\x00\xff"}, 7},
		{row(254, 255, 255, 255, 255, 255, 255, 255, 255, 1, 0, 0, 0, 1), 0, api.Op{Kind: math.MaxInt, HasOld: true}, 14},
	} {
		if o, behind, ok := entry.GetOp(x.b, x.at); o != x.want || behind != x.behind || !ok {
			t.Errorf("GetOp(%v, %d) = %+v, %d, %v, not %+v, %d", x.b, x.at, o, behind, ok, x.want, x.behind)
		}
	}
}

func TestP5_1GetByExamples(t *testing.T) {
	for _, x := range writtenEntries {
		for _, ahead := range [][]byte{nil, row(9), row(128, 128)} {
			for _, behind := range [][]byte{nil, row(5), row(255, 255)} {
				b := join(ahead, x.want, behind)
				e, at, ok := entry.Get(b, len(ahead))
				if e != x.e || at != len(ahead)+len(x.want) || !ok {
					t.Errorf("Get(%v, %d) = %+v, %d, %v, not %+v", b, len(ahead), e, at, ok, x.e)
				}
			}
		}
	}
}

// wantNone asks that nothing of the kind stands in b at the place, and that nothing, 0 and false are told.
func wantNone(t *testing.T, k kind, what string, b []byte, at int) {
	t.Helper()
	if got := k.get(b, at); got != k.none {
		t.Fatalf("%s: no %s stands at %d of %s; told: behind %d, %v, zero: %v", what, k.name, at, brief(b), got.behind, got.ok, got.value == k.none.value)
	}
}

// wantNoneAnywhere asks it with other bytes ahead and behind, too. (No byte behind may complete these.)
func wantNoneAnywhere(t *testing.T, k kind, what string, b []byte) {
	t.Helper()
	for _, ahead := range [][]byte{nil, row(0), row(5, 128, 1)} {
		for _, behind := range [][]byte{nil, row(0), row(1, 1), make([]byte, 30)} {
			wantNone(t, k, what, join(ahead, b, behind), len(ahead))
		}
	}
}

func TestP5_1PlacesAtTheEndAndPastIt(t *testing.T) {
	for _, k := range []kind{ops, entries} {
		for _, b := range [][]byte{nil, {}, row(0), make([]byte, 5), make([]byte, 12), make([]byte, 100), make([]byte, 5, 100), row(128)} {
			for _, past := range []int{0, 1, 2, 12, 50} {
				wantNone(t, k, "past the end", b, len(b)+past)
			}
			for _, at := range []int{1 << 31, 1 << 32, 1 << 62, math.MaxInt - 1, math.MaxInt} {
				wantNone(t, k, "far past the end", b, at)
			}
		}
	}
}

func TestP5_1LastPlaceWhereOneStands(t *testing.T) {
	b := make([]byte, 40)
	for at := range b {
		if got := ops.get(b, at); at <= 35 && got != (answer{api.Op{}, at + 5, true}) || at > 35 && got != ops.none {
			t.Errorf("an operation at %d of 40 noughts: %+v", at, got)
		}
		if got := entries.get(b, at); at <= 28 && got != (answer{api.Entry{}, at + 12, true}) || at > 28 && got != entries.none {
			t.Errorf("an entry at %d of 40 noughts: %+v", at, got)
		}
	}
}

func TestP5_1BytesThatBreakOff(t *testing.T) {
	for _, x := range things() {
		b := x.bytes()
		for n := range b {
			if len(b) > 1000 && n > 30 && n < len(b)-30 && n%5003 != 0 {
				continue
			}
			wantNone(t, x.kind, "cut off", b[:n:n], 0)
			// What lies in the memory behind the end isn't there.
			wantNone(t, x.kind, "cut off, the rest behind", b[:n], 0)
			if len(b) <= 1000 {
				wantNone(t, x.kind, "cut off, bytes ahead", join(row(9, 128, 0), b[:n]), 3)
			}
		}
	}
}

// long is a number's bytes, in n bytes more than it needs.
func long(b []byte, n int) []byte {
	b = bytes.Clone(b)
	b[len(b)-1] |= 128
	b = append(b, bytes.Repeat(row(128), n)...)
	b[len(b)-1] = 0
	return b
}

// wrongPart asks that nothing stands where a part of one of the kinds has each of the wrong bytes: in each such field of the zero things, and of the full ones.
func wrongPart(t *testing.T, what string, wrong func(p part) [][]byte, kinds ...string) {
	t.Helper()
	for _, x := range few() {
		had := 0
		for i, p := range x.parts {
			if !slices.Contains(kinds, p.kind) {
				continue
			}
			had++
			for _, b := range wrong(p) {
				wantNoneAnywhere(t, x.kind, what+" in "+p.name, x.with(i, b))
			}
		}
		// This holds the test to what it is for: there are such fields.
		if had == 0 && !slices.Equal(kinds, []string{isCount}) {
			t.Errorf("%s: no such field in %v", what, x)
		}
	}
}

func TestP5_1NumbersInMoreBytesThanTheyNeed(t *testing.T) {
	wrongPart(t, "a number in more bytes than it needs", func(p part) [][]byte {
		var l [][]byte
		for n := 1; n <= 10; n++ {
			l = append(l, long(p.bytes, n), long(told(0), n), long(told(-1), n), long(told(100), n), long(told(math.MaxInt), n), long(told(math.MinInt), n))
		}
		return l
	}, isNumber, isCount)
}

func TestP5_1NumbersOfMoreThan64Bits(t *testing.T) {
	wrongPart(t, "a number of more than 64 bits", func(p part) [][]byte {
		var l [][]byte
		for _, fill := range row(128, 129, 255) {
			for _, last := range row(2, 3, 126, 127) {
				l = append(l, join(bytes.Repeat(row(fill), 9), row(last)))
			}
			for n := 10; n <= 20; n++ {
				l = append(l, join(bytes.Repeat(row(fill), n), row(1)))
			}
		}
		return l
	}, isNumber, isCount)
}

func TestP5_1VersionsThatAreNone(t *testing.T) {
	wrongPart(t, "a number that no version has", func(p part) [][]byte {
		var l [][]byte
		for _, n := range []int{-1, -2, -64, -65, -api.MaxCount, math.MinInt, api.MaxCount + 1, api.MaxCount + 2, 2 * api.MaxCount, 1 << 53, 1 << 62, math.MaxInt} {
			l = append(l, told(n))
		}
		return l
	}, isCount)
}

func TestP5_1TruthsOfOtherBytes(t *testing.T) {
	wrongPart(t, "a truth that is none", func(p part) [][]byte {
		var l [][]byte
		for x := 2; x < 256; x++ {
			l = append(l, row(byte(x)))
		}
		return l
	}, isTruth)
}

func TestP5_1LengthsOfTextsThatAreNone(t *testing.T) {
	wrongPart(t, "a length below 0", func(p part) [][]byte {
		var l [][]byte
		for _, n := range []int{-1, -2, -64, -65, -api.MaxText, -1 << 32, math.MinInt} {
			l = append(l, told(n), join(told(n), make([]byte, 100)))
		}
		return l
	}, isText)
	wrongPart(t, "a length in more bytes than it needs", func(p part) [][]byte {
		return [][]byte{long(told(0), 1), long(told(0), 9), join(long(told(1), 1), row('a')), join(long(told(64), 1), make([]byte, 64))}
	}, isText)
	wrongPart(t, "a length of more than 64 bits", func(p part) [][]byte {
		return [][]byte{join(bytes.Repeat(row(128), 9), row(2)), join(bytes.Repeat(row(128), 10), row(0)), bytes.Repeat(row(255), 30)}
	}, isText)
}

// TestP5_1TextsLongerThanMaxText has noughts enough behind for all fields, whatever the length.
func TestP5_1TextsLongerThanMaxText(t *testing.T) {
	wrongPart(t, "a text longer than MaxText", func(p part) [][]byte {
		var l [][]byte
		for _, n := range []int{api.MaxText + 1, api.MaxText + 2, api.MaxText + 64, 2 * api.MaxText} {
			l = append(l, join(told(n), make([]byte, n)), join(told(n), make([]byte, 3*api.MaxText)))
		}
		for _, n := range []int{1 << 31, 1 << 32, 1<<32 + 1, 1 << 62, math.MaxInt - 1, math.MaxInt} {
			l = append(l, told(n), join(told(n), make([]byte, 100)))
		}
		return l
	}, isText)
}

func TestP5_1TextsLongerThanWhatIsThere(t *testing.T) {
	for _, x := range few() {
		for i, p := range x.parts {
			if p.kind != isText {
				continue
			}
			rest := len(x.with(i, nil))
			for _, q := range x.parts[:i] {
				rest -= len(q.bytes)
			}
			// A text that takes all that is left leaves none for the truth that stands behind each.
			for _, n := range []int{rest, rest + 1, rest + 2, rest + 64, api.MaxText - 1, api.MaxText} {
				b := x.with(i, told(n))
				wantNone(t, x.kind, "a text longer than what is there in "+p.name, b, 0)
				wantNone(t, x.kind, "the same, bytes ahead", join(make([]byte, 100), b), 100)
				wantNone(t, x.kind, "the same, bytes in the memory behind", join(b, make([]byte, 2*api.MaxText))[:len(b)], 0)
			}
		}
	}
}

// P5.1: Size.

func TestP5_1SizeByExamples(t *testing.T) {
	full := strings.Repeat("f", api.MaxText)
	for _, x := range []struct {
		e    api.Entry
		want int
	}{
		{api.Entry{}, 1},
		{api.Entry{Key: "k"}, 2},
		{api.Entry{Val: "v"}, 2},
		{api.Entry{Key: "key", Val: "values"}, 10},
		{api.Entry{Key: "key", Val: "values", Write: true}, 10},
		{api.Entry{Key: "key", Write: true, Del: true}, 4},
		{api.Entry{Res: "result", HasRes: true}, 1},
		{api.Entry{Ver: ver.Make(9, 9), Kind: 9, Sess: 9, Num: 9, Code: 9, Write: true, Del: true, HasRes: true}, 1},
		{api.Entry{Key: "\u20ac", Val: "\u00e9"}, 6},
		{api.Entry{Key: "\x00", Val: "\xff\x80"}, 4},
		{api.Entry{Key: full}, api.MaxText + 1},
		{api.Entry{Val: full, Res: full}, api.MaxText + 1},
		{api.Entry{Key: full, Val: full, Res: full}, 2*api.MaxText + 1},
		{fullEntry, 10},
	} {
		if n := entry.Size(x.e); n != x.want {
			t.Errorf("the size of the entry of %s is %d, not %d", brief(entry.Put(nil, x.e)), n, x.want)
		}
	}
}

func TestP5_1SizeOfAll(t *testing.T) {
	for _, e := range allEntries() {
		if n := entry.Size(e); n != len(e.Key+e.Val)+1 {
			t.Errorf("the size of an entry of %d and %d bytes is %d", len(e.Key), len(e.Val), n)
		}
	}
}

// P5.2: what follows.

func TestP5_2ReadAsItWas(t *testing.T) {
	around := [][]byte{nil, row(0), row(1), row(2), row(127), row(128), row(255), row(128, 0), make([]byte, 12), bytes.Repeat(row(255), 12)}
	for _, x := range things() {
		for _, ahead := range around {
			b := x.put(bytes.Clone(ahead), x.value)
			end := len(b)
			for _, behind := range around {
				if got := x.get(append(b, behind...), len(ahead)); got != (answer{x.value, end, true}) {
					t.Fatalf("%v, behind %v and ahead of %v: is read otherwise, behind %d, not %d, %v", x, ahead, behind, got.behind, end, got.ok)
				}
			}
		}
	}
}

func TestP5_2ReadAsItWasWithEachByteAround(t *testing.T) {
	for _, x := range few() {
		for i := range 256 {
			b := append(x.put(row(byte(i)), x.value), byte(255-i))
			if got := x.get(b, 1); got != (answer{x.value, len(b) - 1, true}) {
				t.Fatalf("%v, behind %d and ahead of %d: is read otherwise, behind %d, %v", x, i, 255-i, got.behind, got.ok)
			}
		}
	}
}

func TestP5_2AllReadInTheirOrder(t *testing.T) {
	var b []byte
	l := things()
	for _, x := range l {
		b = x.put(b, x.value)
	}
	at := 0
	for _, x := range l {
		end := at + len(x.bytes())
		if got := x.get(b, at); got != (answer{x.value, end, true}) {
			t.Fatalf("%v at %d: is read otherwise, behind %d, not %d, %v", x, at, got.behind, end, got.ok)
		}
		at = end
	}
	if at != len(b) {
		t.Errorf("%d of %d bytes are read", at, len(b))
	}
}

// oneWay asks that what is read of b at the place is just the bytes in which it is written; it tells whether something is.
func oneWay(t *testing.T, k kind, b []byte, at int) bool {
	t.Helper()
	got := k.get(b, at)
	if !got.ok {
		if got != k.none {
			t.Fatalf("no %s at %d of %v, but %+v", k.name, at, b, got)
		}
		return false
	}
	if got.behind <= at || got.behind > len(b) || !bytes.Equal(k.put(nil, got.value), b[at:got.behind]) {
		t.Fatalf("an %s at %d of %v: %+v is written in another way", k.name, at, b, got)
	}
	return true
}

func TestP5_2OneWayOfEachByteAnother(t *testing.T) {
	written := []thing{ofOp(api.Op{Kind: 64, Val: "\x01\x01", HasOld: true}), ofEntry(api.Entry{Ver: ver.Make(100, 1), Sess: 64, Num: -65, Res: "\x02\x02"})}
	for _, x := range append(few(), written...) {
		for i := range x.bytes() {
			read := 0
			for y := range 256 {
				b := join(x.bytes(), make([]byte, 20))
				b[i] = byte(y)
				if oneWay(t, x.kind, b, 0) {
					read++
				}
			}
			if read == 0 {
				t.Errorf("%v: whatever byte stands at %d, nothing is read", x, i)
			}
		}
	}
}

// TestP5_2OneWayOfManyBytes is of bytes that come of a rule: most of them small, so that something is often read.
func TestP5_2OneWayOfManyBytes(t *testing.T) {
	next := uint32(1)
	take := func(n int) int {
		next = next*1664525 + 1013904223
		return int(next>>16) % n
	}
	some := row(0, 0, 0, 0, 0, 0, 1, 1, 1, 2, 2, 4, 127, 128, 129, 255)
	read := map[string]int{}
	for range 5000 {
		b := make([]byte, 20+take(20))
		for i := range b {
			b[i] = some[take(len(some))]
		}
		for at := range b {
			for _, k := range []kind{ops, entries} {
				if oneWay(t, k, b, at) {
					read[k.name]++
				}
			}
		}
	}
	// This holds the test to what it is for: much is read.
	if read["operation"] < 500 || read["entry"] < 500 {
		t.Error(read)
	}
}

// P5.3: what is handed in stays, what is read is new memory.

func TestP5_3OutStays(t *testing.T) {
	l := things()
	for name, out := range outs() {
		was := bytes.Clone(out)
		for _, x := range l {
			b := x.put(out, x.value)
			if !bytes.Equal(out, was) || !bytes.Equal(b[:len(was)], was) {
				t.Fatalf("%v: %s is changed", x, name)
			}
		}
	}
}

func TestP5_3PutWritesNoFurtherThanOutMayGrow(t *testing.T) {
	for _, x := range few() {
		for n := range 60 {
			memory := bytes.Repeat(row(170), 100)
			x.put(memory[8:10:10+n], x.value)
			if !bytes.Equal(memory[:10], bytes.Repeat(row(170), 10)) || !bytes.Equal(memory[10+n:], bytes.Repeat(row(170), 90-n)) {
				t.Errorf("%v: with room for %d, others' bytes are changed", x, n)
			}
		}
	}
}

func TestP5_3WhatIsReadFromStays(t *testing.T) {
	for _, x := range things() {
		memory := join(row(3, 128), x.bytes(), row(255, 1, 0))
		was := bytes.Clone(memory)
		b := memory[:len(memory)-2]
		for _, k := range []kind{ops, entries} {
			for _, at := range []int{0, 1, 2, 3, len(b) - 1, len(b)} {
				k.get(b, at)
			}
		}
		if !bytes.Equal(memory, was) {
			t.Fatalf("%v: once it was read, it is %s", x, brief(memory))
		}
	}
}

func TestP5_3WhatIsReadIsNewMemory(t *testing.T) {
	for _, x := range things() {
		b := x.bytes()
		got := x.get(b, 0)
		for i := range b {
			b[i] ^= 85
		}
		if got != (answer{x.value, len(b), true}) {
			t.Fatalf("%v is another one once the bytes are others", x)
		}
	}
}

func TestP5_3NothingIsKept(t *testing.T) {
	var had [][]byte
	for _, x := range things() {
		had = append(had, x.put(nil, x.value))
	}
	for i, x := range things() {
		if !bytes.Equal(had[i], x.bytes()) {
			t.Fatalf("%v was written, and others behind it: it is now %s", x, brief(had[i]))
		}
		clear(had[i][:cap(had[i])])
		if b := x.put(nil, x.value); !bytes.Equal(b, x.bytes()) {
			t.Fatalf("%v is written otherwise once what was answered is cleared", x)
		}
	}
	full := join(ofEntry(fullEntry).bytes())
	for _, b := range [][]byte{full[:1], full[:10], full[:len(full)-1]} {
		entry.Get(full, 0)
		wantNone(t, entries, "a beginning, once all was read", b, 0)
	}
	if e, _, ok := entry.Get(make([]byte, 12), 0); e != (api.Entry{}) || !ok {
		t.Errorf("the zero entry, once another one was read: %+v", e)
	}
	if o, _, ok := entry.GetOp(make([]byte, 5), 0); o != (api.Op{}) || !ok {
		t.Errorf("the zero operation, once others were read: %+v", o)
	}
}

// P1: each call ends, and none panics: of what isn't right nothing else is promised, and what is answered isn't looked at.

func TestP1NoCallPanics(t *testing.T) {
	over := strings.Repeat("t", 3*api.MaxText)
	for _, out := range outs() {
		for _, x := range []float64{math.NaN(), math.Inf(1), math.Inf(-1), -1, 0.5, api.MaxCount + 1, math.MaxFloat64} {
			entry.Put(out, api.Entry{Ver: api.Ver(complex(x, 1))})
			entry.Put(out, api.Entry{Ver: api.Ver(complex(1, x))})
		}
		entry.PutOp(out, api.Op{Key: over, Val: over, Old: over})
		entry.Put(out, api.Entry{Key: over, Val: over, Res: over})
	}
	entry.Size(api.Entry{Key: over, Val: over})
	for _, k := range []kind{ops, entries} {
		for _, b := range [][]byte{nil, {}, row(0), make([]byte, 40), bytes.Repeat(row(128), 50), bytes.Repeat(row(255), 50)} {
			for _, at := range []int{math.MinInt, math.MinInt + 1, -1 << 32, -51, -50, -12, -5, -2, -1} {
				k.get(b, at)
			}
			for at := range b {
				k.get(b, at)
			}
		}
	}
}
