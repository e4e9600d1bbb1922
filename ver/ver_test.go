package ver_test

import (
	"math"
	"testing"

	"lockgate/api"
	"lockgate/ver"
)

// minus is -0, which no constant of Go is.
var minus = math.Copysign(0, -1)

// counts has the edges of a part, and what a narrower number than a float64 would round.
var counts = []int{0, 1, 2, 9, 10, 1<<24 + 1, 1<<31 - 1, 1 << 31, 1<<32 + 1, api.MaxCount - 1, api.MaxCount}

func of(epoch, num float64) api.Ver { return api.Ver(complex(epoch, num)) }

// pair is a version told by whole numbers, to hold the order of complex numbers against.
type pair struct{ epoch, num int }

func (p pair) ver() api.Ver { return ver.Make(p.epoch, p.num) }

func (p pair) ahead(q pair) bool {
	return p.epoch < q.epoch || p.epoch == q.epoch && p.num < q.num
}

func pairs() []pair {
	var l []pair
	for _, e := range counts {
		for _, n := range counts {
			l = append(l, pair{e, n})
		}
	}
	return l
}

// zeros has every way in which 0 stands in either part.
func zeros() []api.Ver {
	return []api.Ver{0, of(0, 0), of(minus, 0), of(0, minus), of(minus, minus)}
}

// P1.1: Make, Epoch, Num.

func TestP1_1MakeTellsTheParts(t *testing.T) {
	for _, p := range pairs() {
		v := p.ver()
		if real(v) != float64(p.epoch) || imag(v) != float64(p.num) {
			t.Errorf("Make(%d, %d) = %v", p.epoch, p.num, v)
		}
		if ver.Epoch(v) != p.epoch || ver.Num(v) != p.num {
			t.Errorf("Make(%d, %d) has the parts %d, %d", p.epoch, p.num, ver.Epoch(v), ver.Num(v))
		}
	}
}

func TestP1_1PartsOfWrittenVersions(t *testing.T) {
	for _, x := range []struct {
		v          api.Ver
		epoch, num int
	}{
		{2 + 5i, 2, 5}, {5 + 2i, 5, 2}, {7, 7, 0}, {7i, 0, 7}, {api.MaxCount, api.MaxCount, 0}, {api.MaxCount * 1i, 0, api.MaxCount},
		{of(minus, 3), 0, 3}, {of(3, minus), 3, 0}, {of(minus, minus), 0, 0},
	} {
		if ver.Epoch(x.v) != x.epoch || ver.Num(x.v) != x.num {
			t.Errorf("%v has the parts %d, %d", x.v, ver.Epoch(x.v), ver.Num(x.v))
		}
	}
}

func TestP1_1NothingsVersion(t *testing.T) {
	if v := ver.Make(0, 0); v != 0 {
		t.Errorf("Make(0, 0) = %v", v)
	}
}

// P1.1: Right.

func TestP1_1RightOfVersions(t *testing.T) {
	for _, p := range pairs() {
		if !ver.Right(p.ver()) {
			t.Errorf("%v is a version", p.ver())
		}
	}
	for _, v := range zeros() {
		if !ver.Right(v) {
			t.Errorf("%v is a version", v)
		}
	}
	for _, v := range []api.Ver{of(minus, api.MaxCount), of(api.MaxCount, minus), of(minus, 1), of(1, minus)} {
		if !ver.Right(v) {
			t.Errorf("%v is a version", v)
		}
	}
}

func wrongParts() []float64 {
	return []float64{
		-1, -2, -api.MaxCount, -1 << 60, -0.5, -1.5, -math.SmallestNonzeroFloat64, -math.MaxFloat64,
		0.5, 1.5, 1e-9, math.SmallestNonzeroFloat64, math.Nextafter(1, 0), math.Nextafter(1, 2), api.MaxCount - 0.5, math.Nextafter(api.MaxCount, 0),
		api.MaxCount + 1, api.MaxCount + 0.5, math.Nextafter(api.MaxCount, math.Inf(1)), 2 * api.MaxCount, 1 << 53, 1 << 63, 1 << 64, math.MaxFloat64,
		math.NaN(), math.Inf(1), math.Inf(-1),
	}
}

func TestP1_1RightOfWrongParts(t *testing.T) {
	wrong := wrongParts()
	for _, x := range wrong {
		for _, good := range []float64{0, minus, 1, api.MaxCount} {
			if ver.Right(of(x, good)) {
				t.Errorf("%v is no version: its epoch is wrong", of(x, good))
			}
			if ver.Right(of(good, x)) {
				t.Errorf("%v is no version: its number is wrong", of(good, x))
			}
		}
		for _, y := range wrong {
			if ver.Right(of(x, y)) {
				t.Errorf("%v is no version: both parts are wrong", of(x, y))
			}
		}
	}
}

// P1.1: Ahead, Later.

func TestP1_1AheadByExamples(t *testing.T) {
	const most = api.MaxCount
	for _, x := range []struct {
		a, b api.Ver
		is   bool
	}{
		// An earlier epoch is ahead, whatever its numbers are.
		{2 + 5i, 3, true},
		{3, 2 + 5i, false},
		{most * 1i, 1, true},
		{1, most * 1i, false},
		{most - 1, most, true},
		{most, most - 1, false},
		// In one epoch numbers decide; a version isn't ahead of itself.
		{2 + 5i, 2 + 6i, true},
		{2 + 6i, 2 + 5i, false},
		{2 + 5i, 2 + 5i, false},
		{of(most, most-1), of(most, most), true},
		{of(most, most), of(most, most), false},
		// Nothing's version is ahead of all others.
		{0, 1i, true},
		{1i, 0, false},
		{0, 1, true},
		{1, 0, false},
		{0, 0, false},
		// Where -0 stands, 0 does.
		{of(minus, 1), of(0, 2), true},
		{of(0, 1), of(minus, 2), true},
		{of(minus, 2), of(0, 1), false},
		{of(0, 2), of(minus, 1), false},
		{of(3, minus), of(3, 1), true},
		{of(3, 1), of(3, minus), false},
	} {
		if ver.Ahead(x.a, x.b) != x.is {
			t.Errorf("Ahead(%v, %v) = %v", x.a, x.b, !x.is)
		}
	}
}

func TestP1_1AheadAndLaterOfAllPairs(t *testing.T) {
	l := pairs()
	for _, p := range l {
		for _, q := range l {
			a, b := p.ver(), q.ver()
			if ver.Ahead(a, b) != p.ahead(q) {
				t.Errorf("Ahead(%v, %v) = %v", a, b, !p.ahead(q))
			}
			want := b
			if q.ahead(p) {
				want = a
			}
			if v := ver.Later(a, b); v != want {
				t.Errorf("Later(%v, %v) = %v", a, b, v)
			}
		}
	}
}

func TestP1_1MinusNoughtIsNought(t *testing.T) {
	for _, a := range zeros() {
		for _, b := range zeros() {
			if ver.Ahead(a, b) {
				t.Errorf("Ahead(%v, %v)", a, b)
			}
			if v := ver.Later(a, b); v != 0 {
				t.Errorf("Later(%v, %v) = %v", a, b, v)
			}
		}
		if ver.Later(a, 1i) != 1i || ver.Later(1i, a) != 1i || ver.Later(a, 1) != 1 || ver.Later(1, a) != 1 {
			t.Errorf("Later of %v and what is behind it", a)
		}
	}
}

func TestP1_1LaterOfItself(t *testing.T) {
	for _, p := range pairs() {
		if v := ver.Later(p.ver(), p.ver()); v != p.ver() {
			t.Errorf("Later(%v, itself) = %v", p.ver(), v)
		}
	}
}

// P1.2: Next.

func TestP1_2NextByExamples(t *testing.T) {
	const most = api.MaxCount
	for _, x := range []struct {
		v     api.Ver
		epoch int
		want  api.Ver
	}{
		{2 + 5i, 3, 3 + 6i},
		{2 + 5i, 2, 2 + 6i},
		{0, 0, 1i},
		{0, 1, 1 + 1i},
		{0, most, most + 1i},
		{of(most, 0), most, most + 1i},
		{of(0, most-1), 0, most * 1i},
		{of(0, most-1), most, of(most, most)},
		{of(most, most-1), most, of(most, most)},
		{of(minus, minus), 0, 1i},
		{of(minus, 4), 0, 5i},
		{of(minus, 4), 2, 2 + 5i},
		{of(4, minus), 6, 6 + 1i},
	} {
		if v := ver.Next(x.v, x.epoch); v != x.want {
			t.Errorf("Next(%v, %d) = %v", x.v, x.epoch, v)
		}
	}
}

// nextOf calls f with each pair and each epoch of which Next promises something.
func nextOf(f func(p pair, epoch int)) {
	for _, p := range pairs() {
		for _, epoch := range counts {
			if p.num < api.MaxCount && epoch >= p.epoch {
				f(p, epoch)
			}
		}
	}
}

func TestP1_2NextHasTheEpochAndOneMore(t *testing.T) {
	nextOf(func(p pair, epoch int) {
		v := ver.Next(p.ver(), epoch)
		if !ver.Right(v) || ver.Epoch(v) != epoch || ver.Num(v) != p.num+1 || v != ver.Make(epoch, p.num+1) {
			t.Errorf("Next(%v, %d) = %v", p.ver(), epoch, v)
		}
	})
}

// P1.3: what follows.

func TestP1_3JustOneOfThreeHolds(t *testing.T) {
	l := zeros()
	for _, p := range pairs() {
		l = append(l, p.ver())
	}
	for _, a := range l {
		for _, b := range l {
			holds := 0
			for _, is := range []bool{ver.Ahead(a, b), ver.Ahead(b, a), a == b} {
				if is {
					holds++
				}
			}
			if holds != 1 {
				t.Errorf("of %v and %v %d of three hold", a, b, holds)
			}
		}
	}
}

func TestP1_3AheadOfWhatIsAheadIsAhead(t *testing.T) {
	l := pairs()
	for _, p := range l {
		for _, q := range l {
			if !ver.Ahead(p.ver(), q.ver()) {
				continue
			}
			for _, r := range l {
				if ver.Ahead(q.ver(), r.ver()) && !ver.Ahead(p.ver(), r.ver()) {
					t.Errorf("%v, %v, %v: the first one isn't ahead of the last one", p.ver(), q.ver(), r.ver())
				}
			}
		}
	}
}

func TestP1_3AheadOfItsNext(t *testing.T) {
	nextOf(func(p pair, epoch int) {
		v := ver.Next(p.ver(), epoch)
		if !ver.Ahead(p.ver(), v) || ver.Ahead(v, p.ver()) || ver.Later(p.ver(), v) != v {
			t.Errorf("%v isn't ahead of its Next %v", p.ver(), v)
		}
	})
}

// P1: each call ends, and none panics, whatever it is given: what is answered for no version isn't promised, and isn't looked at.

func TestP1NoCallPanics(t *testing.T) {
	parts := append(wrongParts(), 0, minus, 1, api.MaxCount)
	for _, x := range parts {
		for _, y := range parts {
			v := of(x, y)
			ver.Right(v)
			ver.Epoch(v)
			ver.Num(v)
			ver.Ahead(v, 1i)
			ver.Later(1i, v)
			ver.Next(v, 1)
		}
	}
	for _, n := range []int{math.MinInt, -1, 0, 1, api.MaxCount, api.MaxCount + 1, math.MaxInt} {
		ver.Make(n, n)
		ver.Next(1, n)
	}
}
