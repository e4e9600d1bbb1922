package hash_test

import (
	"hash/fnv"
	"math"
	"strings"
	"testing"

	"lockgate/api"
	"lockgate/hash"
)

// told is the sum as Go's own library has it, which knows nothing of the program.
func told(s string) uint64 {
	h := fnv.New64a()
	h.Write([]byte(s))
	return h.Sum64()
}

// brief keeps what a failing test prints short.
func brief(s string) string {
	if len(s) > 20 {
		return s[:20] + ".."
	}
	return s
}

// rising is all bytes from 0 to 255, in a row.
func rising() string {
	var b [256]byte
	for i := range b {
		b[i] = byte(i)
	}
	return string(b[:])
}

// falling is all bytes from 255 to 0, in a row.
func falling() string {
	var b [256]byte
	for i := range b {
		b[i] = byte(255 - i)
	}
	return string(b[:])
}

// texts has no text and texts of all kinds: bytes that aren't UTF-8, runes of several bytes, noughts, and more bytes than a text of the program has.
func texts() []string {
	l := []string{
		"", "a", "b", "ab", "ba", "foobar", "lockgate", "a key, and its value\n",
		"\x00", "\x00\x00", "a\x00", "\x00a", "\x7f", "\x80", "\xff", "\xff\xff",
		"\u00e9", "\xc3", "\xa9", "\xa9\xc3", "\u20ac uro", "\U0001f511", "\ufffd", "\xef\xbf",
		rising(), falling(), rising() + falling(),
		strings.Repeat("a", api.MaxText), strings.Repeat("a", api.MaxText+1), strings.Repeat(rising(), 300),
	}
	for i := range 256 {
		l = append(l, string([]byte{byte(i)}), string([]byte{'k', byte(i), 'y'}))
	}
	return l
}

// P2.1: Sum.

func TestP2_1SumByExamples(t *testing.T) {
	for _, x := range []struct {
		s   string
		sum uint64
	}{
		{"", 14695981039346656037},
		{"a", 12638187200555641996},
		{"b", 12638190499090526629},
		{"ab", 620445648566982762},
		{"ba", 623241706636955660},
		{"foobar", 9625390261332436968},
		{"lockgate", 17942867496050041181},
		// A nought is a byte like others, at each end.
		{"\x00", 12638153115695167455},
		{"\x00\x00", 590684067820433389},
		// A byte whose top bit is set turns the lowest eight bits alone.
		{"\x80", 12638293853183578463},
		{"\xff", 12638352127299873646},
		// A rune of two bytes is two bytes, and half a rune is a byte.
		{"\u00e9", 775207407765167617},
		{"\xc3", 12638365321439412178},
		{"\xa9", 12638266365392873188},
		{rising(), 4774620800949106213},
		{falling(), 189274279233742117},
		{strings.Repeat("a", api.MaxText), 2237163225421914917},
		{strings.Repeat("a", api.MaxText+1), 10990876261056834700},
	} {
		if sum := hash.Sum(x.s); sum != x.sum {
			t.Errorf("Sum(%q) = %d, not %d", brief(x.s), sum, x.sum)
		}
	}
}

func TestP2_1SumOfTexts(t *testing.T) {
	for _, s := range texts() {
		if sum := hash.Sum(s); sum != told(s) {
			t.Errorf("Sum(%q), of %d bytes, = %d, not %d", brief(s), len(s), sum, told(s))
		}
	}
}

func TestP2_1SumOfAllTextsOfTwoBytes(t *testing.T) {
	for i := range 256 {
		for j := range 256 {
			s := string([]byte{byte(i), byte(j)})
			if sum := hash.Sum(s); sum != told(s) {
				t.Errorf("Sum(%q) = %d, not %d", s, sum, told(s))
			}
		}
	}
}

func TestP2_1SumOfEachLength(t *testing.T) {
	s := strings.Repeat("lockgate \xff\x00\u00e9 ", 50)
	for n := range len(s) {
		if sum := hash.Sum(s[:n]); sum != told(s[:n]) {
			t.Errorf("Sum of %d bytes = %d, not %d", n, sum, told(s[:n]))
		}
	}
}

func TestP2_1SumKeepsNothing(t *testing.T) {
	for _, s := range []string{"", "a", "foobar"} {
		first := hash.Sum(s)
		hash.Sum("another text")
		if again := hash.Sum(s); again != first {
			t.Errorf("Sum(%q) = %d, then %d", s, first, again)
		}
	}
}

// P2.1: Shard.

// numbers has one shard, as many as there may be and one more or less, and so many that a narrower number than the sum would show.
var numbers = []int{
	1, 2, 3, 4, 5, 7, 10, api.MaxShards - 1, api.MaxShards, api.MaxShards + 1, 97, 256, 4096,
	1<<31 - 1, 1 << 31, 1<<31 + 1, 1<<32 - 1, 1 << 32, 1<<32 + 1, api.MaxCount, 1 << 53, 1<<62 + 1, math.MaxInt - 1, math.MaxInt,
}

func TestP2_1ShardByExamples(t *testing.T) {
	for _, x := range []struct {
		key           string
		shards, shard int
	}{
		{"", 1, 0}, {"a", 1, 0}, {"ab", 1, 0}, {"foobar", 1, 0},
		{"", 2, 1}, {"a", 2, 0}, {"b", 2, 1}, {"\x00\x00", 2, 1},
		// Sums whose top bit is set: a remainder of a number below 0 would be another one.
		{"", 3, 2}, {"a", 3, 1}, {"\x80", 3, 2}, {"lockgate", 3, 2},
		{"", 7, 2}, {"a", 7, 5}, {"foobar", 7, 6}, {"lockgate", 7, 0},
		{"", 10, 7}, {"a", 10, 6}, {"foobar", 10, 8}, {"lockgate", 10, 1},
		{"", 16, 5}, {"a", 16, 12}, {"b", 16, 5}, {"foobar", 16, 8},
		{"", 17, 13}, {"a", 17, 10}, {"lockgate", 17, 1},
		// Sums whose top bit isn't set.
		{"ab", 3, 0}, {"ba", 3, 2}, {"ab", 7, 6}, {"ba", 7, 2}, {"ab", 16, 10}, {"ba", 16, 12}, {"ab", 17, 16}, {"ba", 17, 13},
		// Many shards.
		{"", 1 << 40, 981469373221}, {"a", 1 << 40, 328665787532}, {"ab", 1 << 40, 33106008170},
		{"a", 1<<31 - 1, 1690936615}, {"a", 1 << 32, 2248273036}, {"a", 1<<32 + 1, 3600683073},
		{"", math.MaxInt, 5472609002491880230}, {"a", math.MaxInt, 3414815163700866189}, {"ab", math.MaxInt, 620445648566982762},
	} {
		if shard := hash.Shard(x.key, x.shards); shard != x.shard {
			t.Errorf("Shard(%q, %d) = %d, not %d", x.key, x.shards, shard, x.shard)
		}
	}
}

func TestP2_1ShardOfTexts(t *testing.T) {
	for _, s := range texts() {
		for _, n := range numbers {
			shard := hash.Shard(s, n)
			if shard < 0 || shard >= n {
				t.Errorf("Shard(%q, %d) = %d, which is no shard", brief(s), n, shard)
			}
			if uint64(shard) != told(s)%uint64(n) {
				t.Errorf("Shard(%q, %d) = %d, not %d", brief(s), n, shard, told(s)%uint64(n))
			}
		}
	}
}

// TestP2_1TextsHaveBothTops holds the tests above to what they are for: sums with the top bit set, and without it.
func TestP2_1TextsHaveBothTops(t *testing.T) {
	var tops [2]int
	for _, s := range texts() {
		tops[told(s)>>63]++
	}
	if tops[0] == 0 || tops[1] == 0 {
		t.Errorf("%d sums without the top bit, %d with it", tops[0], tops[1])
	}
}

func TestP2_1OneShardHasAll(t *testing.T) {
	for _, s := range texts() {
		if shard := hash.Shard(s, 1); shard != 0 {
			t.Errorf("Shard(%q, 1) = %d", brief(s), shard)
		}
	}
}

// P2.2: what follows.

// unlike asks of all texts that differ from s in the byte at i, and of s, that no two of them have one sum.
func unlike(t *testing.T, s string, i int) {
	t.Helper()
	had := map[uint64]byte{}
	b := []byte(s)
	for j := range 256 {
		b[i] = byte(j)
		sum := hash.Sum(string(b))
		if other, is := had[sum]; is {
			t.Errorf("%q, of %d bytes: with %d and with %d at %d it has the sum %d", brief(s), len(s), other, j, i, sum)
			return
		}
		had[sum] = byte(j)
	}
}

func TestP2_2OneByteAtEachPlace(t *testing.T) {
	for _, s := range []string{
		"a", "\x00", "ab", "\xff\xff", "foobar", "lockgate", "\u20ac uro", "a text of some forty bytes, or even more",
		strings.Repeat("\x00", 64), strings.Repeat("\xff", 64), rising(), falling(),
	} {
		for i := range len(s) {
			unlike(t, s, i)
		}
	}
}

func TestP2_2OneByteOfALongText(t *testing.T) {
	s := strings.Repeat("k", api.MaxText)
	for _, i := range []int{0, 1, 255, 256, len(s) / 2, len(s) - 2, len(s) - 1} {
		unlike(t, s, i)
	}
}

func TestP2_2PairsOfOneByte(t *testing.T) {
	for _, x := range [][2]string{
		{"a", "b"}, {"a", "A"}, {"\x00", "\x80"}, {"\x7f", "\xff"}, {"key1", "key2"}, {"1key", "2key"}, {"k1ey", "k2ey"},
		{"\xc3\xa9", "\xc3\xa8"}, {"\xc3\xa9", "\xc2\xa9"}, {"\xfe", "\xff"},
	} {
		if hash.Sum(x[0]) == hash.Sum(x[1]) {
			t.Errorf("%q and %q have one sum", x[0], x[1])
		}
	}
}

// P1: each call ends, and none panics: of shards below 1 nothing else is promised, and what is answered isn't looked at.

func TestP1NoCallPanics(t *testing.T) {
	for _, s := range texts() {
		hash.Sum(s)
		for _, n := range []int{math.MinInt, math.MinInt + 1, -api.MaxShards, -2, -1, 0, 1, math.MaxInt} {
			hash.Shard(s, n)
		}
	}
}
