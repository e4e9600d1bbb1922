package frame_test

import (
	"bytes"
	"encoding/binary"
	"hash/fnv"
	"math"
	"slices"
	"strconv"
	"testing"

	"lockgate/api"
	"lockgate/frame"
)

// head is how many bytes stand ahead of a frame's record.
const head = 12

// row is bytes in a row, written out.
func row(l ...byte) []byte { return l }

// join is lists of bytes, one behind the other, in memory of its own, without room behind.
func join(l ...[]byte) []byte { return slices.Clip(slices.Concat(l...)) }

// sumOf is a text's sum as Go's own library has it, which knows nothing of the program.
func sumOf(l ...[]byte) uint64 {
	h := fnv.New64a()
	for _, b := range l {
		h.Write(b)
	}
	return h.Sum64()
}

func size(n int) []byte { return binary.LittleEndian.AppendUint32(nil, uint32(n)) }

func summed(n int, sum uint64, rec []byte) []byte {
	return join(size(n), binary.LittleEndian.AppendUint64(nil, sum), rec)
}

// framed is a frame whose four bytes tell a length that needn't be its record's; its sum is the one of what stands there.
func framed(n int, rec []byte) []byte { return summed(n, sumOf(size(n), rec), rec) }

// told is a record's frame.
func told(rec []byte) []byte { return framed(len(rec), rec) }

// inARow is records' frames, one behind the other.
func inARow(recs [][]byte) []byte {
	var l [][]byte
	for _, rec := range recs {
		l = append(l, told(rec))
	}
	return join(l...)
}

// brief keeps what a failing test prints short.
func brief(b []byte) string {
	s := ""
	for _, x := range b[:min(len(b), 20)] {
		s += strconv.Itoa(int(x)) + " "
	}
	if len(b) > 20 {
		s += ".. (" + strconv.Itoa(len(b)) + " bytes)"
	}
	return s
}

// wantScan asks that Scan tells just these records, and the place.
func wantScan(t *testing.T, name string, b []byte, recs [][]byte, place int) {
	t.Helper()
	got, at := frame.Scan(b)
	if len(got) != len(recs) || at != place {
		t.Fatalf("%s: Scan tells %d records, and the place %d, not %d and %d: %s", name, len(got), at, len(recs), place, brief(b))
	}
	for i := range recs {
		if !bytes.Equal(got[i], recs[i]) {
			t.Fatalf("%s: record %d is %s, not %s", name, i, brief(got[i]), brief(recs[i]))
		}
	}
}

// pattern is n bytes, unlike from one to the next, which don't come again at a power of 2.
func pattern(n int) []byte {
	b := make([]byte, n)
	for i := range b {
		b[i] = byte(i*7 + i/251)
	}
	return b
}

// records has lengths of one byte and of more, with bytes of all kinds; two of them are frames themselves.
func records() [][]byte {
	l := [][]byte{nil, row(0), row(1), row(255), row(0, 0), row('a', 'b'), row('b', 'a'), []byte("hello"), make([]byte, head), bytes.Repeat(row(255), head)}
	for _, n := range []int{3, 4, 7, 8, 11, 12, 13, 127, 128, 254, 255, 256, 257, 511, 512, 1000, 65535, 65536, 65537} {
		l = append(l, pattern(n))
	}
	return append(l, told(nil), told(row(1, 2)))
}

// rows has records in a row: none, one, several of unlike lengths, the same one twice.
func rows() map[string][][]byte {
	return map[string][][]byte{
		"none":                     nil,
		"the empty record":         {nil},
		"one of one byte":          {row(7)},
		"one":                      {[]byte("hello")},
		"two empty ones":           {nil, nil},
		"the same one twice":       {[]byte("hello"), []byte("hello")},
		"unlike lengths":           {[]byte("hello"), nil, row(0), pattern(300), row('a', 'b')},
		"the empty one at the end": {row('a'), nil},
		"255 and 256 bytes":        {pattern(255), pattern(256), pattern(255)},
		"a frame":                  {told(row(1, 2)), row(3)},
		"the same one five times":  {row(9, 9), row(9, 9), row(9, 9), row(9, 9), row(9, 9)},
	}
}

// P4.1: Put.

func TestP4_1PutByExamples(t *testing.T) {
	for _, x := range []struct {
		rec  string
		want []byte
	}{
		{"", row(0, 0, 0, 0, 245, 19, 206, 157, 127, 118, 37, 77)},
		{"a", row(1, 0, 0, 0, 127, 221, 219, 167, 174, 13, 13, 216, 'a')},
		{"ab", row(2, 0, 0, 0, 160, 233, 147, 6, 96, 253, 84, 146, 'a', 'b')},
		{"\x00", row(1, 0, 0, 0, 236, 126, 220, 167, 174, 108, 13, 216, 0)},
		{"hello", row(5, 0, 0, 0, 120, 41, 244, 105, 41, 230, 139, 87, 'h', 'e', 'l', 'l', 'o')},
		{"\xff\x80", row(2, 0, 0, 0, 168, 75, 221, 7, 96, 139, 216, 147, 255, 128)},
	} {
		if b := frame.Put(nil, []byte(x.rec)); !bytes.Equal(b, x.want) {
			t.Errorf("Put(nil, %q) = %v, not %v", x.rec, b, x.want)
		}
	}
}

func TestP4_1PutOfTheEmptyRecord(t *testing.T) {
	for _, rec := range [][]byte{nil, {}, make([]byte, 0, 10), []byte("abc")[3:]} {
		b := frame.Put(nil, rec)
		if len(b) != head || !bytes.Equal(b[:4], row(0, 0, 0, 0)) || !bytes.Equal(b, told(nil)) {
			t.Errorf("the empty record's frame is %v", b)
		}
	}
}

func TestP4_1PutTellsTheLengthLowestFirst(t *testing.T) {
	for _, x := range []struct {
		n    int
		want []byte
	}{
		{0, row(0, 0, 0, 0)}, {1, row(1, 0, 0, 0)}, {254, row(254, 0, 0, 0)},
		{255, row(255, 0, 0, 0)}, {256, row(0, 1, 0, 0)}, {257, row(1, 1, 0, 0)}, {65535, row(255, 255, 0, 0)},
		{65536, row(0, 0, 1, 0)}, {65537, row(1, 0, 1, 0)}, {api.MaxFrame - 1, row(255, 255, 255, 0)}, {api.MaxFrame, row(0, 0, 0, 1)},
	} {
		b := frame.Put(nil, make([]byte, x.n))
		if len(b) != head+x.n || !bytes.Equal(b[:4], x.want) {
			t.Errorf("%d bytes: a frame of %d bytes, %s", x.n, len(b), brief(b))
		}
	}
}

func TestP4_1PutOfEachRecord(t *testing.T) {
	for _, rec := range records() {
		if b := frame.Put(nil, rec); !bytes.Equal(b, told(rec)) {
			t.Errorf("Put(nil, %s) = %s, not %s", brief(rec), brief(b), brief(told(rec)))
		}
	}
}

// outs has what may be put behind: nothing, bytes, and either with room left, which has bytes of others in it.
func outs() map[string][]byte {
	room := bytes.Repeat(row(170), 70000)
	return map[string][]byte{
		"nil":                         nil,
		"an empty out":                {},
		"an empty out with room":      slices.Clone(room)[:0],
		"bytes":                       join(row(7, 128, 0, 255, 1)),
		"bytes with room for one":     slices.Clone(room)[:5:6],
		"bytes with room for a head":  slices.Clone(room)[: 5 : 5+head],
		"bytes with room for a frame": slices.Clone(room)[: 5 : 5+head+256],
		"bytes with room for all":     slices.Clone(room)[:5],
		"a frame":                     told([]byte("hello")),
		"half a frame":                told([]byte("hello"))[:8:8],
		"half a frame, the rest lies behind, as room": told([]byte("hello"))[:8],
		"many bytes": bytes.Clone(room),
	}
}

func TestP4_1PutBehindEachOut(t *testing.T) {
	for name := range outs() {
		for _, rec := range records() {
			out := outs()[name]
			want := join(out, told(rec))
			if b := frame.Put(out, rec); !bytes.Equal(b, want) {
				t.Fatalf("%s, behind %s: %s, not %s", brief(rec), name, brief(b), brief(want))
			}
		}
	}
}

func TestP4_1PutOneBehindTheOther(t *testing.T) {
	var b []byte
	for _, rec := range records() {
		b = frame.Put(b, rec)
	}
	if !bytes.Equal(b, inARow(records())) {
		t.Errorf("%d bytes, not the %d of one frame behind the other", len(b), len(inARow(records())))
	}
}

// P4.1: Scan.

func TestP4_1ScanByExamples(t *testing.T) {
	hello := row(5, 0, 0, 0, 120, 41, 244, 105, 41, 230, 139, 87, 'h', 'e', 'l', 'l', 'o')
	empty := row(0, 0, 0, 0, 245, 19, 206, 157, 127, 118, 37, 77)
	for _, x := range []struct {
		name string
		b    []byte
		recs [][]byte
		at   int
	}{
		{"nil", nil, nil, 0},
		{"no bytes", []byte{}, nil, 0},
		{"no bytes, a frame lies behind", hello[:0], nil, 0},
		{"the empty record", empty, [][]byte{nil}, 12},
		{"hello", hello, [][]byte{[]byte("hello")}, 17},
		{"half a frame", hello[:8], nil, 0},
		{"half the empty record's", empty[:6], nil, 0},
		{"two", join(hello, empty), [][]byte{[]byte("hello"), nil}, 29},
		{"one twice", join(hello, hello), [][]byte{[]byte("hello"), []byte("hello")}, 34},
		{"one and a half", join(hello, hello[:8]), [][]byte{[]byte("hello")}, 17},
		{"half a one, and one", join(hello[:8], hello), nil, 0},
		{"a byte ahead", join(row(0), hello), nil, 0},
		{"a byte behind", join(hello, row(0)), [][]byte{[]byte("hello")}, 17},
		{"a byte between", join(hello, row(0), hello), [][]byte{[]byte("hello")}, 17},
	} {
		wantScan(t, x.name, x.b, x.recs, x.at)
	}
}

func TestP4_1ScanOfEachRecord(t *testing.T) {
	for _, rec := range records() {
		b := told(rec)
		wantScan(t, "alone", b, [][]byte{rec}, len(b))
		b = inARow([][]byte{row(1), rec, row(2)})
		wantScan(t, "between two", b, [][]byte{row(1), rec, row(2)}, len(b))
	}
}

func TestP4_1ScanOfAllInARow(t *testing.T) {
	b := inARow(records())
	wantScan(t, "all", b, records(), len(b))
	for name, recs := range rows() {
		b := inARow(recs)
		wantScan(t, name, b, recs, len(b))
	}
}

func TestP4_1ScanOfWhatIsPut(t *testing.T) {
	var b []byte
	for _, rec := range records() {
		b = frame.Put(b, rec)
	}
	wantScan(t, "all", b, records(), len(b))
}

func TestP4_1ScanOfManyFrames(t *testing.T) {
	var recs [][]byte
	for i := range 5000 {
		recs = append(recs, []byte(strconv.Itoa(i)))
	}
	b := inARow(recs)
	wantScan(t, "5000", b, recs, len(b))
	wantScan(t, "4999 and a bit", b[:len(b)-1], recs[:4999], len(b)-head-4)
}

// P4.1: a record of MaxFrame bytes is one, and one of more isn't.

func TestP4_1TheGreatestRecord(t *testing.T) {
	for _, n := range []int{api.MaxFrame - 1, api.MaxFrame} {
		rec := pattern(n)
		b := frame.Put(row(1), rec)
		if !bytes.Equal(b, join(row(1), told(rec))) {
			t.Fatalf("Put of %d bytes: %s", n, brief(b))
		}
		b = join(b[1:], told(row(2)))
		wantScan(t, strconv.Itoa(n)+" bytes", b, [][]byte{rec, row(2)}, len(b))
	}
}

func TestP4_1ARecordOfMoreIsNone(t *testing.T) {
	for _, n := range []int{api.MaxFrame + 1, api.MaxFrame + 2, api.MaxFrame + 256} {
		b := told(make([]byte, n))
		wantScan(t, strconv.Itoa(n)+" bytes", b, nil, 0)
		wantScan(t, strconv.Itoa(n)+" bytes, behind a frame", join(told(row(1)), b), [][]byte{row(1)}, head+1)
	}
}

// lengths has those that four bytes may tell where nothing of the kind stands: MaxFrame, one more, and numbers that are small, or below 0, where fewer bits are looked at.
var lengths = []int{
	api.MaxFrame - 1, api.MaxFrame, api.MaxFrame + 1, api.MaxFrame + 2, api.MaxFrame + 5, api.MaxFrame * 2, api.MaxFrame*255 + 2,
	1<<31 - 1, 1 << 31, 1<<31 + 1, 1<<31 + 2, 1<<31 + 5, 1<<32 - 13, 1<<32 - 12, 1<<32 - 11, 1<<32 - 2, 1<<32 - 1,
}

func TestP4_1LengthsBeyondWhatIsThere(t *testing.T) {
	for _, rec := range [][]byte{nil, row(1), row('a', 'b'), []byte("hello"), pattern(300)} {
		ns := slices.Clone(lengths)
		for k := 1; k <= 30; k++ {
			ns = append(ns, len(rec)+k)
		}
		for _, n := range append(ns, len(rec)+255, len(rec)+256, len(rec)+65536) {
			name := strconv.Itoa(len(rec)) + " bytes, and the length " + strconv.Itoa(n)
			wantScan(t, name, framed(n, rec), nil, 0)
			wantScan(t, name+", behind a frame", join(told(row(1)), framed(n, rec)), [][]byte{row(1)}, head+1)
		}
	}
}

func TestP4_1WhatLiesBehindTheEndIsNotThere(t *testing.T) {
	b := inARow([][]byte{[]byte("hello"), row(1, 2)})
	for n := range b {
		recs, at := frame.Scan(b[:n])
		if len(recs) != n/17 || at != n/17*17 {
			t.Errorf("%d bytes of %d: %d records, %d", n, len(b), len(recs), at)
		}
	}
}

func TestP4_1LengthsOfLessThanIsThere(t *testing.T) {
	for _, rec := range [][]byte{row(1), row('a', 'b'), []byte("hello"), pattern(300)} {
		for n := range rec {
			// The sum is of all that stands there.
			wantScan(t, "a shorter length", framed(n, rec), nil, 0)
		}
	}
}

// P4.1: a sum that is another one.

func TestP4_1SumsOfOthers(t *testing.T) {
	for _, rec := range [][]byte{nil, row(0), row('a'), row('a', 'b'), row(2, 0, 0, 0), []byte("hello"), pattern(255), pattern(256), pattern(65536)} {
		n := len(rec)
		right := sumOf(size(n), rec)
		turned := binary.BigEndian.Uint64(binary.LittleEndian.AppendUint64(nil, right))
		for name, sum := range map[string]uint64{
			"nought": 0, "all bits": math.MaxUint64, "all turned": ^right, "one more": right + 1, "one less": right - 1,
			"the record's alone": sumOf(rec), "the length's alone": sumOf(size(n)), "nothing's": sumOf(),
			"the record's ahead":       sumOf(rec, size(n)),
			"the length highest first": sumOf(binary.BigEndian.AppendUint32(nil, uint32(n)), rec),
			"the length in eight":      sumOf(binary.LittleEndian.AppendUint64(nil, uint64(n)), rec),
			"the length of all":        sumOf(size(n+head), rec),
			"highest first":            turned,
			"the low half alone":       right & (1<<32 - 1), "the high half alone": right &^ (1<<32 - 1),
			"the top bit turned":    right ^ 1<<63,
			"the lowest bit turned": right ^ 1,
		} {
			if sum == right {
				// Of 0 bytes, a length is one both ways.
				continue
			}
			b := summed(n, sum, rec)
			name = strconv.Itoa(n) + " bytes, and the sum is " + name
			wantScan(t, name, b, nil, 0)
			wantScan(t, name+", ahead of a frame", join(b, told(row(1))), nil, 0)
			wantScan(t, name+", behind a frame", join(told(row(1)), b), [][]byte{row(1)}, head+1)
		}
	}
}

func TestP4_1FramesOfOneSumEachOther(t *testing.T) {
	// The sum of the one, at the other.
	for _, x := range [][2]string{{"a", "b"}, {"ab", "ba"}, {"", "a"}, {"hello", "hellp"}, {"\x00", "\x00\x00"}} {
		one, other := []byte(x[0]), []byte(x[1])
		wantScan(t, x[0]+" with the sum of "+x[1], summed(len(one), sumOf(size(len(other)), other), one), nil, 0)
		wantScan(t, x[1]+" with the sum of "+x[0], summed(len(other), sumOf(size(len(one)), one), other), nil, 0)
	}
}

// P4.1: a byte turned, anywhere.

func TestP4_1EachByteTurned(t *testing.T) {
	for name, recs := range rows() {
		b := inARow(recs)
		at, which := 0, 0
		for i := range b {
			if i >= at+head+len(recs[which]) {
				at += head + len(recs[which])
				which++
			}
			for x := 1; x < 256; x++ {
				if len(b) > 100 && x&(x-1) != 0 {
					// Of many bytes, each bit alone is enough.
					continue
				}
				b[i] ^= byte(x)
				wantScan(t, name+", turned by "+strconv.Itoa(x)+" at "+strconv.Itoa(i), b, recs[:which], at)
				b[i] ^= byte(x)
			}
		}
	}
}

func TestP4_1AByteOfALongRecordTurned(t *testing.T) {
	for _, n := range []int{65536, api.MaxFrame} {
		rec := pattern(n)
		b := inARow([][]byte{row(1), rec, row(2)})
		from := head + 1
		for _, i := range []int{0, 3, 4, 11, head, head + 1, head + 255, head + 256, head + n/2, head + n - 1} {
			b[from+i] ^= 64
			wantScan(t, strconv.Itoa(n)+" bytes, turned at "+strconv.Itoa(i), b, [][]byte{row(1)}, from)
			b[from+i] ^= 64
		}
		wantScan(t, strconv.Itoa(n)+" bytes, turned back", b, [][]byte{row(1), rec, row(2)}, len(b))
	}
}

// tails has bytes that are no frame.
func tails() map[string][]byte {
	bad := told([]byte("hello"))
	bad[head] ^= 1
	return map[string][]byte{
		"a nought":                    row(0),
		"three bytes":                 row(1, 2, 3),
		"four noughts":                make([]byte, 4),
		"eleven noughts":              make([]byte, 11),
		"twelve noughts":              make([]byte, 12),
		"many noughts":                make([]byte, 1000),
		"eleven bytes of all bits":    bytes.Repeat(row(255), 11),
		"many bytes of all bits":      bytes.Repeat(row(255), 1000),
		"many bytes":                  pattern(1000),
		"a length":                    size(5),
		"a head":                      told([]byte("hello"))[:head:head],
		"all but the last byte":       told([]byte("hello"))[:16:16],
		"all but the first byte":      join(told([]byte("hello"))[1:]),
		"a frame that isn't right":    bad,
		"one, and one that is":        join(bad, told(row(1))),
		"a length of MaxFrame":        framed(api.MaxFrame, make([]byte, 100)),
		"a length of one more":        framed(api.MaxFrame+1, make([]byte, 100)),
		"a byte, and a frame":         join(row(0), told(row(1))),
		"a head of noughts, a frame":  join(make([]byte, head), told(row(1))),
		"a frame highest first":       join(row(0, 0, 0, 1), told(row(1))[4:]),
		"a frame without its length":  join(told(row(1))[4:], told(row(1))),
		"a frame whose sum is behind": join(size(1), row(1), told(row(1))[4:12]),
	}
}

func TestP4_1BytesBehindTheLastFrame(t *testing.T) {
	for tail, none := range tails() {
		for name, recs := range rows() {
			b := inARow(recs)
			wantScan(t, name+", and "+tail, join(b, none), recs, len(b))
		}
	}
}

func TestP4_1CallsKeepNothing(t *testing.T) {
	b := inARow([][]byte{[]byte("hello"), row(1)})
	frame.Scan(b)
	wantScan(t, "another one", told(row(7)), [][]byte{row(7)}, head+1)
	frame.Put(nil, pattern(300))
	wantScan(t, "again", b, [][]byte{[]byte("hello"), row(1)}, len(b))
	if one, two := frame.Put(nil, row(7)), frame.Put(nil, row(7)); !bytes.Equal(one, two) {
		t.Errorf("%v, then %v", one, two)
	}
}

// P4.2: what follows.

func TestP4_2CutOffAnywhere(t *testing.T) {
	for name, recs := range rows() {
		b := inARow(recs)
		whole, at := 0, 0
		for n := 0; n <= len(b); n++ {
			for whole < len(recs) && n >= at+head+len(recs[whole]) {
				at += head + len(recs[whole])
				whole++
			}
			cut := name + ", cut off at " + strconv.Itoa(n)
			wantScan(t, cut, join(b[:n]), recs[:whole], at)
			wantScan(t, cut+", the rest behind", b[:n], recs[:whole], at)
		}
	}
}

func TestP4_2LongFramesCutOff(t *testing.T) {
	for _, n := range []int{65536, api.MaxFrame} {
		rec := pattern(n)
		b := inARow([][]byte{row(1), rec})
		from := head + 1
		for _, i := range []int{0, 1, 3, 4, 11, head, head + 1, head + n/2, head + n - 1} {
			wantScan(t, strconv.Itoa(n)+" bytes, cut off at "+strconv.Itoa(i), b[:from+i], [][]byte{row(1)}, from)
		}
		wantScan(t, strconv.Itoa(n)+" bytes", b, [][]byte{row(1), rec}, len(b))
	}
}

// wantAgain asks that what Scan tells, framed again, are the bytes up to the place that it tells.
func wantAgain(t *testing.T, name string, b []byte) {
	t.Helper()
	recs, at := frame.Scan(b)
	if at < 0 || at > len(b) {
		t.Fatalf("%s: the place %d of %d bytes", name, at, len(b))
	}
	var again []byte
	for _, rec := range recs {
		again = frame.Put(again, rec)
	}
	if !bytes.Equal(again, b[:at]) || !bytes.Equal(inARow(recs), b[:at]) {
		t.Fatalf("%s: %d records, framed again, aren't the %d bytes", name, len(recs), at)
	}
}

func TestP4_2FramedAgain(t *testing.T) {
	for name, recs := range rows() {
		b := inARow(recs)
		for n := 0; n <= len(b); n++ {
			wantAgain(t, name+", cut off at "+strconv.Itoa(n), b[:n])
		}
		for tail, none := range tails() {
			wantAgain(t, name+", and "+tail, join(b, none))
			wantAgain(t, tail+", and "+name, join(none, b))
		}
		for i := range b {
			c := join(b)
			c[i] ^= 16
			wantAgain(t, name+", turned at "+strconv.Itoa(i), c)
		}
	}
	wantAgain(t, "all", inARow(records()))
	wantAgain(t, "the greatest", inARow([][]byte{row(1), pattern(api.MaxFrame), row(2)}))
}

// TestP4_2BytesOfAllKinds holds Scan to bytes that come of a rule, some of which begin with frames.
func TestP4_2BytesOfAllKinds(t *testing.T) {
	next := uint32(1)
	take := func(n int) int {
		next = next*1664525 + 1013904223
		return int(next>>16) % n
	}
	for round := range 3000 {
		var recs [][]byte
		for range take(4) {
			recs = append(recs, pattern(take(40)))
		}
		b := inARow(recs)
		place := len(b)
		for range take(30) {
			b = append(b, byte(take(4)))
		}
		wantScan(t, "round "+strconv.Itoa(round), b, recs, place)
		wantAgain(t, "round "+strconv.Itoa(round), b)
	}
}

// P4.3: what is handed in stays.

func TestP4_3PutLeavesTheRecord(t *testing.T) {
	for _, rec := range records() {
		room := join(rec, pattern(20))
		had := join(room)
		frame.Put(row(1, 2), room[:len(rec)])
		if !bytes.Equal(room, had) {
			t.Errorf("the record %s is changed, or what lies behind it", brief(rec))
		}
	}
}

func TestP4_3PutLeavesOut(t *testing.T) {
	for name, out := range outs() {
		had := join(out)
		for _, rec := range records() {
			frame.Put(out, rec)
			if !bytes.Equal(out, had) {
				t.Fatalf("%s is changed by a record of %d bytes", name, len(rec))
			}
		}
	}
}

func TestP4_3PutWritesNoFurtherThanOutMayGrow(t *testing.T) {
	for n := range 60 {
		b := bytes.Repeat(row(170), 100)
		frame.Put(b[:5:5+n], []byte("hello"))
		if !bytes.Equal(b[:5], bytes.Repeat(row(170), 5)) || !bytes.Equal(b[5+n:], bytes.Repeat(row(170), 95-n)) {
			t.Errorf("room for %d: others' bytes are changed", n)
		}
	}
}

func TestP4_3PutOfARecordThatLiesInOut(t *testing.T) {
	for _, room := range []int{0, 5, head, head + 3, 100} {
		out := join([]byte("abcdef"), make([]byte, room))[:6]
		want := join([]byte("abcdef"), told([]byte("bcd")))
		if b := frame.Put(out, out[1:4]); !bytes.Equal(b, want) {
			t.Errorf("with room for %d: %v, not %v", room, b, want)
		}
		want = join([]byte("abcdef"), told([]byte("abcdef")))
		if b := frame.Put(out, out); !bytes.Equal(b, want) {
			t.Errorf("out itself, with room for %d: %v, not %v", room, b, want)
		}
	}
}

func TestP4_3PutAnswersNothingOfTheRecord(t *testing.T) {
	for _, n := range []int{1, 5, 256, 65536} {
		rec := slices.Grow(pattern(n), 100)
		b := frame.Put(nil, rec)
		clear(rec[:cap(rec)])
		if !bytes.Equal(b, told(pattern(n))) {
			t.Errorf("%d bytes: the record was changed, and its frame with it", n)
		}
		rec = pattern(n)
		b = frame.Put(nil, rec)
		clear(b[:cap(b)])
		if !bytes.Equal(rec, pattern(n)) {
			t.Errorf("%d bytes: the frame was changed, and its record with it", n)
		}
	}
}

func TestP4_3ScanLeavesTheBytes(t *testing.T) {
	for name, recs := range rows() {
		for tail, none := range tails() {
			room := join(inARow(recs), none, pattern(20))
			had := join(room)
			frame.Scan(room[:len(room)-20])
			if !bytes.Equal(room, had) {
				t.Errorf("%s, and %s: the bytes are changed, or what lies behind", name, tail)
			}
		}
	}
}

// P4.3: what is read is new memory.

func TestP4_3RecordsStayWhenTheBytesGo(t *testing.T) {
	for name, recs := range rows() {
		b := inARow(recs)
		got, _ := frame.Scan(b)
		for i := range b {
			b[i] = ^b[i]
		}
		for i := range recs {
			if !bytes.Equal(got[i], recs[i]) {
				t.Errorf("%s: record %d lies in what was handed in", name, i)
			}
		}
	}
}

// fill writes all that the list may reach, its room too.
func fill(b []byte, x byte) {
	b = b[:cap(b)]
	for i := range b {
		b[i] = x
	}
}

func TestP4_3NoTwoRecordsShareMemory(t *testing.T) {
	for name, recs := range rows() {
		b := inARow(recs)
		for i := range recs {
			got, _ := frame.Scan(b)
			fill(got[i], 85)
			for j := range recs {
				if i != j && !bytes.Equal(got[j], recs[j]) {
					t.Errorf("%s: record %d was changed, and %d with it", name, i, j)
				}
			}
			if !bytes.Equal(b, inARow(recs)) {
				t.Fatalf("%s: record %d was changed, and what was handed in with it", name, i)
			}
		}
	}
}

func TestP4_3NoTwoAnswersShareMemory(t *testing.T) {
	for name, recs := range rows() {
		b := inARow(recs)
		one, _ := frame.Scan(b)
		two, _ := frame.Scan(b)
		for i := range one {
			fill(one[i], 85)
		}
		for i := range one[:cap(one)] {
			one[:cap(one)][i] = row(85)
		}
		for i := range recs {
			if !bytes.Equal(two[i], recs[i]) {
				t.Errorf("%s: record %d of one answer is that of another one", name, i)
			}
		}
		wantScan(t, name, b, recs, len(b))
	}
}

// P1: each call ends, and none panics: of records beyond MaxFrame nothing else is promised, and what is answered isn't looked at.

func TestP1NoCallPanics(t *testing.T) {
	for _, out := range outs() {
		frame.Put(out, nil)
		frame.Put(out, make([]byte, api.MaxFrame+1))
		frame.Scan(out)
	}
	for _, none := range tails() {
		for n := range none {
			frame.Scan(none[:n])
			frame.Scan(none[n:])
		}
	}
	// Each of the four bytes, with nothing behind, and with some.
	for i := range 4 {
		for x := range 256 {
			b := make([]byte, 40)
			b[i] = byte(x)
			for n := range b {
				frame.Scan(b[:n])
			}
		}
	}
}
