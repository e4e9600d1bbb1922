package wire_test

import (
	"bytes"
	"encoding/binary"
	"math"
	"slices"
	"strconv"
	"strings"
	"testing"

	"lockgate/api"
	"lockgate/ver"
	"lockgate/wire"
)

// told is a number's bytes as Go's own library has them, which knows nothing of the program.
func told(n int) []byte { return binary.AppendVarint(nil, int64(n)) }

// row is bytes in a row, written out.
func row(l ...byte) []byte { return l }

// join is lists of bytes, one behind the other, in memory of its own.
func join(l ...[]byte) []byte { return slices.Concat(l...) }

// brief keeps what a failing test prints short.
func brief(b []byte) string {
	s := ""
	for _, x := range b[:min(len(b), 16)] {
		s += strconv.Itoa(int(x)) + " "
	}
	if len(b) > 16 {
		s += ".. (" + strconv.Itoa(len(b)) + " bytes)"
	}
	return s
}

// thing is a number, a truth, a text or a version: the bytes that it is, how it is written, and whether what a Get tells is it.
type thing struct {
	kind, name string
	bytes      []byte
	put        func(out []byte) []byte
	get        func(b []byte, at int) (is bool, behind int, ok bool)
}

func number(n int) thing {
	return thing{"number", "the number " + strconv.Itoa(n), told(n),
		func(out []byte) []byte { return wire.Int(out, n) },
		func(b []byte, at int) (bool, int, bool) {
			m, behind, ok := wire.GetInt(b, at)
			return m == n, behind, ok
		}}
}

func truth(is bool) thing {
	bytes := row(0)
	if is {
		bytes = row(1)
	}
	return thing{"truth", "the truth " + strconv.FormatBool(is), bytes,
		func(out []byte) []byte { return wire.Bool(out, is) },
		func(b []byte, at int) (bool, int, bool) {
			m, behind, ok := wire.GetBool(b, at)
			return m == is, behind, ok
		}}
}

func text(s string) thing {
	return thing{"text", "the text " + brief([]byte(s)), join(told(len(s)), []byte(s)),
		func(out []byte) []byte { return wire.Text(out, s) },
		func(b []byte, at int) (bool, int, bool) {
			m, behind, ok := wire.GetText(b, at)
			return m == s, behind, ok
		}}
}

func version(epoch, num int) thing {
	v := ver.Make(epoch, num)
	return thing{"version", "the version " + strconv.Itoa(epoch) + ", " + strconv.Itoa(num), join(told(epoch), told(num)),
		func(out []byte) []byte { return wire.Ver(out, v) },
		func(b []byte, at int) (bool, int, bool) {
			m, behind, ok := wire.GetVer(b, at)
			return m == v, behind, ok
		}}
}

// ints has the first and the last number of each count of bytes, from one to ten, and their neighbours, of both kinds.
func ints() []int {
	l := []int{0, 1, -1, 2, -2, 5, -5, 42, 100, -100, api.MaxText - 1, api.MaxText, api.MaxText + 1, api.MaxCount - 1, api.MaxCount, api.MaxCount + 1}
	for k := 1; k <= 9; k++ {
		edge := 1 << (7*k - 1)
		l = append(l, edge-2, edge-1, edge, edge+1, -edge-2, -edge-1, -edge, -edge+1)
	}
	for k := range 63 {
		l = append(l, 1<<k, -1<<k)
	}
	return append(l, math.MaxInt-1, math.MaxInt, math.MinInt, math.MinInt+1)
}

// strs has no text, texts of all kinds of bytes, and those at whose lengths one byte more is needed, or is too many.
func strs() []string {
	l := []string{"", "a", "ab", "ba", "lockgate", "\x00", "\x01", "\x80", "\xff", "\xff\xff", "\u00e9", "\xc3", "\u20ac uro", "\ufffd"}
	for _, n := range []int{63, 64, 65, 255, 256, 8191, 8192, api.MaxText - 1, api.MaxText} {
		l = append(l, strings.Repeat("t", n))
	}
	return append(l, strings.Repeat("\x00\xff\x80\x7f", 100))
}

// counts has the edges of a version's parts.
var counts = []int{0, 1, 63, 64, 8191, 8192, 1<<31 - 1, 1 << 31, 1<<32 + 1, api.MaxCount - 1, api.MaxCount}

func things() []thing {
	l := []thing{truth(false), truth(true)}
	for _, n := range ints() {
		l = append(l, number(n))
	}
	for _, s := range strs() {
		l = append(l, text(s))
	}
	for _, epoch := range counts {
		for _, num := range counts {
			l = append(l, version(epoch, num))
		}
	}
	return l
}

// P3.1: Int, Bool, Text, Ver.

func TestP3_1IntByExamples(t *testing.T) {
	for _, x := range []struct {
		n    int
		want []byte
	}{
		{0, row(0)}, {-1, row(1)}, {1, row(2)}, {-2, row(3)}, {2, row(4)},
		// One byte, and the first of two.
		{63, row(126)}, {-64, row(127)}, {64, row(128, 1)}, {-65, row(129, 1)}, {100, row(200, 1)}, {-100, row(199, 1)},
		// Two bytes, and the first of three.
		{127, row(254, 1)}, {128, row(128, 2)}, {8191, row(254, 127)}, {-8192, row(255, 127)}, {8192, row(128, 128, 1)}, {-8193, row(129, 128, 1)},
		{api.MaxText, row(128, 128, 8)}, {api.MaxText + 1, row(130, 128, 8)},
		{api.MaxCount, row(128, 128, 128, 128, 128, 64)}, {api.MaxCount + 1, row(130, 128, 128, 128, 128, 64)},
		// Nine bytes, and the first of ten.
		{1<<62 - 1, row(254, 255, 255, 255, 255, 255, 255, 255, 127)}, {-1 << 62, row(255, 255, 255, 255, 255, 255, 255, 255, 127)},
		{1 << 62, row(128, 128, 128, 128, 128, 128, 128, 128, 128, 1)}, {-1<<62 - 1, row(129, 128, 128, 128, 128, 128, 128, 128, 128, 1)},
		{math.MaxInt, row(254, 255, 255, 255, 255, 255, 255, 255, 255, 1)}, {math.MinInt, row(255, 255, 255, 255, 255, 255, 255, 255, 255, 1)},
	} {
		if b := wire.Int(nil, x.n); !bytes.Equal(b, x.want) {
			t.Errorf("Int(nil, %d) = %v, not %v", x.n, b, x.want)
		}
	}
}

func TestP3_1IntOfOneByteToTen(t *testing.T) {
	var had [11]int
	for _, n := range ints() {
		b := wire.Int(nil, n)
		if !bytes.Equal(b, told(n)) {
			t.Errorf("Int(nil, %d) = %v, not %v", n, b, told(n))
			continue
		}
		had[len(b)]++
	}
	// This holds the test to what it is for: there are numbers of each count of bytes.
	for k := 1; k <= 10; k++ {
		if had[k] == 0 {
			t.Errorf("no number of %d bytes", k)
		}
	}
}

func TestP3_1IntOfAllSmallNumbers(t *testing.T) {
	for n := -70000; n <= 70000; n++ {
		if b := wire.Int(nil, n); !bytes.Equal(b, told(n)) {
			t.Fatalf("Int(nil, %d) = %v, not %v", n, b, told(n))
		}
	}
}

func TestP3_1BoolTextVerByExamples(t *testing.T) {
	full := strings.Repeat("v", api.MaxText)
	for _, x := range []struct {
		name      string
		got, want []byte
	}{
		{"false", wire.Bool(nil, false), row(0)},
		{"true", wire.Bool(nil, true), row(1)},
		{"no text", wire.Text(nil, ""), row(0)},
		{"ab", wire.Text(nil, "ab"), row(4, 97, 98)},
		{"a nought", wire.Text(nil, "\x00"), row(2, 0)},
		{"bytes that are no runes", wire.Text(nil, "\xff\x80"), row(4, 255, 128)},
		{"a rune of two bytes", wire.Text(nil, "\u00e9"), row(4, 195, 169)},
		{"63 bytes", wire.Text(nil, full[:63]), join(row(126), []byte(full[:63]))},
		{"64 bytes", wire.Text(nil, full[:64]), join(row(128, 1), []byte(full[:64]))},
		{"MaxText bytes", wire.Text(nil, full), join(row(128, 128, 8), []byte(full))},
		{"nothing's version", wire.Ver(nil, 0), row(0, 0)},
		{"2, 5", wire.Ver(nil, ver.Make(2, 5)), row(4, 10)},
		{"5, 2", wire.Ver(nil, ver.Make(5, 2)), row(10, 4)},
		{"100, 0", wire.Ver(nil, ver.Make(100, 0)), row(200, 1, 0)},
		{"0, 100", wire.Ver(nil, ver.Make(0, 100)), row(0, 200, 1)},
		{"0, MaxCount", wire.Ver(nil, ver.Make(0, api.MaxCount)), row(0, 128, 128, 128, 128, 128, 64)},
		{"MaxCount, 0", wire.Ver(nil, ver.Make(api.MaxCount, 0)), row(128, 128, 128, 128, 128, 64, 0)},
		{"MaxCount, MaxCount", wire.Ver(nil, ver.Make(api.MaxCount, api.MaxCount)), row(128, 128, 128, 128, 128, 64, 128, 128, 128, 128, 128, 64)},
		{"-0, -0", wire.Ver(nil, minus()), row(0, 0)},
	} {
		if !bytes.Equal(x.got, x.want) {
			t.Errorf("%s: %s, not %s", x.name, brief(x.got), brief(x.want))
		}
	}
}

// minus has -0 as both its parts, where layer 1 says that 0 stands.
func minus() api.Ver {
	x := math.Copysign(0, -1)
	return api.Ver(complex(x, x))
}

// outs has what may be written behind: nothing, bytes, and either with room left, which has bytes of others in it.
func outs() map[string][]byte {
	room := bytes.Repeat(row(170), api.MaxText+100)
	some := row(7, 128, 0, 255, 1)
	return map[string][]byte{
		"nil":                              nil,
		"an empty out":                     {},
		"an empty out with room":           slices.Clone(room)[:0],
		"bytes":                            slices.Clip(slices.Clone(some)),
		"bytes with room for one":          slices.Clone(room)[:5:6],
		"bytes with room for two":          slices.Clone(room)[:5:7],
		"bytes with room for all":          slices.Clone(room)[:5],
		"bytes that another one may begin": row(128),
		"many bytes":                       bytes.Clone(room),
	}
}

func TestP3_1BehindEachOut(t *testing.T) {
	for name, out := range outs() {
		for _, x := range things() {
			want := join(out, x.bytes)
			if b := x.put(out); !bytes.Equal(b, want) {
				t.Fatalf("%s, behind %s: %s, not %s", x.name, name, brief(b), brief(want))
			}
		}
	}
}

func TestP3_1OneBehindTheOther(t *testing.T) {
	var b, want []byte
	for _, x := range things() {
		b = x.put(b)
		want = append(want, x.bytes...)
	}
	if !bytes.Equal(b, want) {
		t.Errorf("%d bytes, not the %d of one behind the other", len(b), len(want))
	}
}

// P3.2: GetInt, GetBool, GetText, GetVer.

func TestP3_2ByExamples(t *testing.T) {
	full := strings.Repeat("v", api.MaxText)
	for _, x := range []struct {
		what   thing
		b      []byte
		at     int
		behind int
	}{
		{number(0), row(0), 0, 1},
		{number(-1), row(1), 0, 1},
		{number(63), row(126), 0, 1},
		{number(-64), row(127), 0, 1},
		{number(64), row(128, 1), 0, 2},
		{number(1), row(128, 2), 1, 2},
		{number(64), row(128, 128, 1, 128), 1, 3},
		{number(0), row(0, 0, 0), 2, 3},
		{number(math.MaxInt), row(254, 255, 255, 255, 255, 255, 255, 255, 255, 1), 0, 10},
		{number(math.MinInt), row(255, 255, 255, 255, 255, 255, 255, 255, 255, 1), 0, 10},
		{number(1 << 62), row(9, 128, 128, 128, 128, 128, 128, 128, 128, 128, 1, 9), 1, 11},
		{truth(false), row(0), 0, 1},
		{truth(true), row(1), 0, 1},
		{truth(true), row(0, 1, 0), 1, 2},
		{truth(false), row(2, 0, 2), 1, 2},
		{text(""), row(0), 0, 1},
		{text(""), row(0, 97), 0, 1},
		{text("hi"), row(9, 4, 'h', 'i', 5), 1, 4},
		{text("\x00"), row(2, 0, 0), 0, 2},
		{text("\xff\x80"), row(4, 255, 128), 0, 3},
		{text(full[:64]), join(row(128, 1), []byte(full)), 0, 66},
		{text(full), join(row(128, 128, 8), []byte(full)), 0, 3 + api.MaxText},
		{text(full), join(row(1, 128, 128, 8), []byte(full), row(1)), 1, 4 + api.MaxText},
		{version(0, 0), row(0, 0), 0, 2},
		{version(2, 5), row(4, 10), 0, 2},
		{version(5, 7), row(4, 10, 14), 1, 3},
		{version(api.MaxCount, 0), row(128, 128, 128, 128, 128, 64, 0), 0, 7},
		{version(0, api.MaxCount), row(0, 128, 128, 128, 128, 128, 64), 0, 7},
		{version(3, api.MaxCount), join(row(5, 6), told(api.MaxCount)), 1, 8},
	} {
		is, behind, ok := x.what.get(x.b, x.at)
		if !is || behind != x.behind || !ok {
			t.Errorf("%s at %d of %s: is it? %v; behind %d, not %d; %v", x.what.name, x.at, brief(x.b), is, behind, x.behind, ok)
		}
	}
}

// answer is all that a Get tells, for those that ask whether there is nothing.
type answer struct {
	value  any
	behind int
	ok     bool
}

// reads has the Gets by what they read, and what each answers where nothing stands.
func reads() map[string]struct {
	get  func(b []byte, at int) answer
	none answer
} {
	type read = struct {
		get  func(b []byte, at int) answer
		none answer
	}
	return map[string]read{
		"number": {func(b []byte, at int) answer {
			n, behind, ok := wire.GetInt(b, at)
			return answer{n, behind, ok}
		}, answer{0, 0, false}},
		"truth": {func(b []byte, at int) answer {
			is, behind, ok := wire.GetBool(b, at)
			return answer{is, behind, ok}
		}, answer{false, 0, false}},
		"text": {func(b []byte, at int) answer {
			s, behind, ok := wire.GetText(b, at)
			return answer{s, behind, ok}
		}, answer{"", 0, false}},
		"version": {func(b []byte, at int) answer {
			v, behind, ok := wire.GetVer(b, at)
			return answer{v, behind, ok}
		}, answer{api.Ver(0), 0, false}},
	}
}

// wantNone asks that nothing of the kind stands in b at the place, and that noughts and false are told.
func wantNone(t *testing.T, kind string, b []byte, at int) {
	t.Helper()
	read := reads()[kind]
	if got := read.get(b, at); got != read.none {
		t.Fatalf("a %s at %d of %s: there is none; behind %d, %v", kind, at, brief(b), got.behind, got.ok)
	}
}

// wantNoneAnywhere asks it with the bytes alone, and with others ahead. (What stands behind may complete them.)
func wantNoneAnywhere(t *testing.T, kind string, b []byte) {
	t.Helper()
	for _, ahead := range [][]byte{nil, row(0), row(5, 128, 1), row(255, 255)} {
		wantNone(t, kind, join(ahead, b), len(ahead))
	}
}

func TestP3_2PlacesAtTheEndAndPastIt(t *testing.T) {
	for kind := range reads() {
		for _, b := range [][]byte{nil, {}, row(0), row(0, 0), row(1, 2, 3), row(128), make([]byte, 100), make([]byte, 5, 100)} {
			for _, at := range []int{len(b), len(b) + 1, len(b) + 2, len(b) + 50, 1 << 31, 1 << 32, 1 << 62, math.MaxInt - 1, math.MaxInt} {
				wantNone(t, kind, b, at)
			}
		}
	}
}

func TestP3_2LastPlace(t *testing.T) {
	b := row(9, 9, 0)
	for _, x := range []thing{number(0), truth(false), text("")} {
		if is, behind, ok := x.get(b, 2); !is || behind != 3 || !ok {
			t.Errorf("%s at the last byte: %v, %d, %v", x.name, is, behind, ok)
		}
	}
	wantNone(t, "version", b, 2)
}

func TestP3_2BytesThatBreakOff(t *testing.T) {
	for _, x := range things() {
		for n := range len(x.bytes) {
			if n > 20 && n < len(x.bytes)-20 {
				continue
			}
			wantNoneAnywhere(t, x.kind, x.bytes[:n])
			// What lies in the memory behind the end isn't there.
			wantNone(t, x.kind, slices.Clone(x.bytes)[:n], 0)
		}
	}
}

// long is a number's bytes, in n bytes more than it needs.
func long(x, n int) []byte {
	b := told(x)
	b[len(b)-1] |= 128
	b = append(b, bytes.Repeat(row(128), n)...)
	b[len(b)-1] = 0
	return b
}

func TestP3_2NumbersInMoreBytesThanTheyNeed(t *testing.T) {
	for _, b := range [][]byte{row(128, 0), row(129, 0), row(255, 0), row(128, 128, 0), row(128, 129, 0), row(129, 128, 0), row(255, 255, 0)} {
		wantNoneAnywhere(t, "number", b)
		wantNone(t, "number", join(b, row(1, 1)), 0)
	}
	for _, x := range ints() {
		for n := 1; n <= 12; n++ {
			wantNoneAnywhere(t, "number", long(x, n))
			wantNone(t, "number", join(long(x, n), row(0)), 0)
		}
	}
	// So are those within a text, and a version.
	for n := 1; n <= 10; n++ {
		wantNoneAnywhere(t, "text", long(0, n))
		wantNoneAnywhere(t, "text", join(long(2, n), []byte("ab")))
		wantNoneAnywhere(t, "version", join(long(2, n), row(10)))
		wantNoneAnywhere(t, "version", join(row(4), long(5, n)))
		wantNoneAnywhere(t, "version", join(long(0, n), row(0)))
		wantNoneAnywhere(t, "version", join(row(0), long(0, n)))
	}
}

func TestP3_2NumbersOfMoreThan64Bits(t *testing.T) {
	for _, fill := range []byte{128, 129, 255} {
		nine := bytes.Repeat(row(fill), 9)
		// The tenth byte has the 64th bit alone: only 1 is right.
		for x := range 256 {
			if b := join(nine, row(byte(x))); x != 1 {
				wantNoneAnywhere(t, "number", b)
				wantNone(t, "number", join(b, row(0)), 0)
				wantNone(t, "number", join(b, row(1)), 0)
			} else if _, behind, ok := wire.GetInt(b, 0); behind != 10 || !ok {
				t.Errorf("%v: behind %d, %v", b, behind, ok)
			}
		}
		for n := 10; n <= 80; n++ {
			for _, last := range []byte{0, 1, 2, 127} {
				wantNoneAnywhere(t, "number", join(bytes.Repeat(row(fill), n), row(last)))
			}
		}
		wantNone(t, "number", bytes.Repeat(row(fill), 1000), 0)
	}
}

func TestP3_2TruthsOfOtherBytes(t *testing.T) {
	for x := 2; x < 256; x++ {
		wantNoneAnywhere(t, "truth", row(byte(x)))
		wantNone(t, "truth", row(byte(x), 0), 0)
		wantNone(t, "truth", row(byte(x), 1), 0)
	}
}

func TestP3_2LengthsOfTexts(t *testing.T) {
	plenty := bytes.Repeat([]byte("p"), api.MaxText+100)
	for _, n := range []int{-1, -2, -64, -65, -api.MaxText, -1 << 31, -1 << 32, -1 << 62, math.MinInt + 1, math.MinInt} {
		wantNoneAnywhere(t, "text", told(n))
		wantNoneAnywhere(t, "text", join(told(n), plenty))
	}
	for _, n := range []int{api.MaxText + 1, api.MaxText + 2, api.MaxText + 64, 1 << 31, 1 << 32, 1<<32 + 1, 1 << 62, math.MaxInt - 1, math.MaxInt} {
		wantNoneAnywhere(t, "text", told(n))
		wantNoneAnywhere(t, "text", join(told(n), plenty))
		// A length that, with the place, goes round.
		wantNone(t, "text", join(row(0, 0, 0, 0, 0, 0), told(n), plenty), 6)
	}
	for _, n := range []int{1, 2, 63, 64, 8192, api.MaxText - 1, api.MaxText} {
		wantNoneAnywhere(t, "text", told(n))
		wantNoneAnywhere(t, "text", join(told(n), plenty[:n-1]))
		// Nor is a byte ahead of the length one behind it.
		wantNone(t, "text", join(plenty[:50], told(n), plenty[:n-1]), 50)
		for _, behind := range []int{0, 1, 100} {
			b := join(told(n), plenty[:n+behind])
			if s, at, ok := wire.GetText(b, 0); s != string(plenty[:n]) || at != len(told(n))+n || !ok {
				t.Errorf("a text of %d bytes, with %d behind: %d bytes, behind %d, %v", n, behind, len(s), at, ok)
			}
		}
	}
}

func TestP3_2PartsOfVersions(t *testing.T) {
	wrong := []int{
		-1, -2, -64, -api.MaxCount, -1 << 62, math.MinInt + 1, math.MinInt,
		api.MaxCount + 1, api.MaxCount + 2, 2 * api.MaxCount, 1 << 53, 1<<53 + 1, 1 << 62, math.MaxInt - 1, math.MaxInt,
	}
	for _, x := range wrong {
		for _, good := range counts {
			wantNoneAnywhere(t, "version", join(told(x), told(good)))
			wantNoneAnywhere(t, "version", join(told(good), told(x)))
		}
		for _, y := range wrong {
			wantNoneAnywhere(t, "version", join(told(x), told(y)))
		}
		wantNone(t, "version", join(told(x), row(0, 0)), 0)
		wantNone(t, "version", join(row(0), told(x), row(0)), 0)
	}
}

// P3.3: what follows.

// reread asks that x is read as it was where it was written, with these bytes ahead and those behind.
func reread(t *testing.T, x thing, ahead, behind []byte) {
	t.Helper()
	b := append(x.put(slices.Clone(ahead)), behind...)
	end := len(b) - len(behind)
	if is, at, ok := x.get(b, len(ahead)); !is || at != end || !ok {
		t.Fatalf("%s, behind %s and ahead of %s: is it? %v; behind %d, not %d; %v", x.name, brief(ahead), brief(behind), is, at, end, ok)
	}
}

func TestP3_3ReadAsItWas(t *testing.T) {
	around := [][]byte{nil, row(0), row(1), row(127), row(128), row(255), row(128, 1), row(128, 0), row(0, 0, 0), bytes.Repeat(row(255), 12), bytes.Repeat([]byte("t"), 100)}
	for _, x := range things() {
		for _, ahead := range around {
			for _, behind := range around {
				reread(t, x, ahead, behind)
			}
		}
	}
}

func TestP3_3ReadAsItWasWithEachByteBehind(t *testing.T) {
	for _, x := range things() {
		if len(x.bytes) > 300 {
			continue
		}
		for i := range 256 {
			reread(t, x, row(byte(i)), row(byte(255-i)))
			reread(t, x, nil, row(byte(i)))
		}
	}
}

func TestP3_3AllReadInTheirOrder(t *testing.T) {
	var b []byte
	l := things()
	for _, x := range l {
		b = x.put(b)
	}
	at := 0
	for _, x := range l {
		is, behind, ok := x.get(b, at)
		if !is || behind != at+len(x.bytes) || !ok {
			t.Fatalf("%s at %d: is it? %v; behind %d, %v", x.name, at, is, behind, ok)
		}
		at = behind
	}
	if at != len(b) {
		t.Errorf("%d of %d bytes are read", at, len(b))
	}
}

func TestP3_3VersionsWithMinusNought(t *testing.T) {
	if v, at, ok := wire.GetVer(wire.Ver(nil, minus()), 0); v != 0 || at != 2 || !ok {
		t.Errorf("%v, %d, %v", v, at, ok)
	}
}

// writeAgain has, for each kind, the bytes of what a Get told.
var writeAgain = map[string]func(a answer) []byte{
	"number":  func(a answer) []byte { return wire.Int(nil, a.value.(int)) },
	"truth":   func(a answer) []byte { return wire.Bool(nil, a.value.(bool)) },
	"text":    func(a answer) []byte { return wire.Text(nil, a.value.(string)) },
	"version": func(a answer) []byte { return wire.Ver(nil, a.value.(api.Ver)) },
}

// oneWay asks that whatever is read of b, at whatever place, is just the bytes in which it is written.
func oneWay(t *testing.T, b []byte) {
	t.Helper()
	for kind, read := range reads() {
		for at := range len(b) {
			a := read.get(b, at)
			if !a.ok {
				if a != read.none {
					t.Fatalf("no %s at %d of %v, but %#v, %d", kind, at, b, a.value, a.behind)
				}
			} else if a.behind <= at || a.behind > len(b) || !bytes.Equal(writeAgain[kind](a), b[at:a.behind]) {
				t.Fatalf("a %s at %d of %v: %#v, behind %d, is written in another way", kind, at, b, a.value, a.behind)
			}
		}
	}
}

func TestP3_3OneWayOfAllBytes(t *testing.T) {
	for i := range 256 {
		oneWay(t, row(byte(i)))
		for j := range 256 {
			oneWay(t, row(byte(i), byte(j)))
		}
	}
}

func TestP3_3OneWayOfLongerBytes(t *testing.T) {
	some := row(0, 1, 2, 4, 127, 128, 129, 255)
	for i := range 8 * 8 * 8 * 8 {
		oneWay(t, row(some[i&7], some[i>>3&7], some[i>>6&7], some[i>>9]))
	}
	for _, fill := range row(128, 129, 255) {
		for n := 5; n <= 12; n++ {
			for i := range 256 {
				b := join(bytes.Repeat(row(fill), n), row(byte(i)))
				oneWay(t, b)
				oneWay(t, join(b, row(0)))
				oneWay(t, join(b, row(1)))
			}
		}
	}
}

func TestP3_3NoneBeginsAnother(t *testing.T) {
	l := things()
	for i, x := range l {
		a := x.put(nil)
		for j, y := range l {
			if i == j || x.kind != y.kind || x.name == y.name {
				continue
			}
			if bytes.HasPrefix(y.put(nil), a) {
				t.Fatalf("%s begins %s", x.name, y.name)
			}
		}
	}
}

func TestP3_3NoneOfManyNumbersBeginsAnother(t *testing.T) {
	had := map[string]int{}
	for n := -10000; n <= 10000; n++ {
		had[string(wire.Int(nil, n))] = n
	}
	if len(had) != 20001 {
		t.Errorf("20001 numbers have %d rows of bytes", len(had))
	}
	for s, n := range had {
		for i := range len(s) {
			if m, is := had[s[:i]]; is {
				t.Fatalf("%d begins %d", m, n)
			}
		}
	}
}

// P3.4: what is handed in stays, what is read is new memory.

func TestP3_4OutStays(t *testing.T) {
	for name, out := range outs() {
		for _, x := range things() {
			was := slices.Clone(out)
			b := x.put(out)
			if !bytes.Equal(out, was) {
				t.Errorf("%s, behind %s: out is now %s", x.name, name, brief(out))
			}
			if !bytes.Equal(b[:len(was)], was) {
				t.Errorf("%s, behind %s: its beginning is %s", x.name, name, brief(b[:len(was)]))
			}
		}
	}
}

// TestP3_4BytesAheadOfOutStay is of an out that begins in the midst of other bytes.
func TestP3_4BytesAheadOfOutStay(t *testing.T) {
	for _, x := range things() {
		memory := bytes.Repeat(row(170), len(x.bytes)+20)
		x.put(memory[8:10])
		if !bytes.Equal(memory[:10], bytes.Repeat(row(170), 10)) {
			t.Errorf("%s: ahead of it there are now %v", x.name, memory[:10])
		}
	}
}

func TestP3_4WhatIsReadFromStays(t *testing.T) {
	for _, x := range things() {
		memory := join(row(3, 128), x.bytes, row(255, 1, 0))
		was := slices.Clone(memory)
		b := memory[:len(memory)-2]
		for kind, read := range reads() {
			for _, at := range []int{0, 1, 2, len(b) - 1, len(b)} {
				read.get(b, at)
				if !bytes.Equal(memory, was) {
					t.Fatalf("%s: once a %s was read at %d, it is %s", x.name, kind, at, brief(memory))
				}
			}
		}
	}
}

func TestP3_4TextsReadAreNewMemory(t *testing.T) {
	for _, s := range strs() {
		b := wire.Text(row(9), s)
		got, _, ok := wire.GetText(b, 1)
		for i := range b {
			b[i] ^= 85
		}
		if got != s || !ok {
			t.Errorf("a text of %d bytes is another one once the bytes are others", len(s))
		}
	}
}

func TestP3_4NothingIsKept(t *testing.T) {
	first := wire.Int(nil, 300)
	text := wire.Text(nil, "one")
	wire.Int(nil, -300)
	wire.Text(nil, "two")
	wire.Ver(nil, ver.Make(9, 9))
	if !bytes.Equal(first, told(300)) || !bytes.Equal(text, row(6, 'o', 'n', 'e')) {
		t.Errorf("what was answered is now %v, %v", first, text)
	}
	for _, x := range things() {
		b := x.put(nil)
		clear(b)
		if !bytes.Equal(x.put(nil), x.bytes) {
			t.Errorf("%s is written otherwise once what was answered is cleared", x.name)
		}
	}
}

// P1: each call ends, and none panics, whatever it is given: of what isn't right nothing else is promised, and what is answered isn't looked at.

func TestP1NoCallPanics(t *testing.T) {
	for _, x := range []float64{math.NaN(), math.Inf(1), math.Inf(-1), -1, 0.5, api.MaxCount + 1, math.MaxFloat64} {
		wire.Ver(nil, api.Ver(complex(x, 1)))
		wire.Ver(nil, api.Ver(complex(1, x)))
	}
	wire.Text(nil, strings.Repeat("t", api.MaxText+1))
	wire.Text(row(1), strings.Repeat("t", 10*api.MaxText))
	full := bytes.Repeat(row(128), 50)
	for _, at := range []int{math.MinInt, math.MinInt + 1, -1 << 32, -51, -50, -2, -1} {
		for _, b := range [][]byte{nil, {}, row(0), row(4, 10), full} {
			for _, read := range reads() {
				read.get(b, at)
			}
		}
	}
}
