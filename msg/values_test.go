package msg_test

import (
	"math"
	"reflect"
	"slices"
	"strings"
	"sync"

	"lockgate/api"
	"lockgate/ver"
)

// fullOp, fullEntries and so on have no two fields of one type with one value, but for the truths: each of these is another one than its neighbour somewhere. Lists are in no order, as nothing asks for one.
func fullOp() api.Op {
	return api.Op{Kind: api.Swap, Key: "operand", Val: "new", Old: "old one", HasOld: true}
}

func fullEntries() []api.Entry {
	return []api.Entry{
		{Ver: ver.Make(17, 300), Kind: 18, Key: "later", Val: "of entries", Write: true, Sess: 1900, Num: 19, Code: 20, Res: "had", HasRes: true},
		{Ver: ver.Make(11, 12), Kind: -13, Key: "ahead", Val: "v", Del: true, Sess: 14, Num: -1, Code: 16, Res: "r"},
	}
}

func fullChain() []api.Member {
	return []api.Member{{Node: 23, Boot: 2400}, {Node: 21, Boot: 22}, {Node: -25, Boot: 26}}
}

func fullViews() []api.View {
	return []api.View{
		{Shard: 390, Epoch: 40, Gen: 41, Phase: 42, Chain: []api.Member{{Node: 43, Boot: 44}, {Node: 37, Boot: 38}}},
		{Shard: 31, Epoch: 32, Gen: -33, Phase: 34, Chain: []api.Member{{Node: 35, Boot: 36}}},
	}
}

func fullImage() api.Image {
	return api.Image{
		Floor: ver.Make(51, 52), Last: ver.Make(53, 5400), Gen: 55,
		Log: []api.Entry{
			{Ver: ver.Make(62, 63), Kind: 64, Key: "logged", Val: "value", Write: true, Del: true, Sess: 65, Num: 66, Code: 67, Res: "result", HasRes: true},
			{Ver: ver.Make(56, 57), Kind: 58, Key: "and this", Val: "too", Sess: 59, Num: 60, Code: 61, Res: "x", HasRes: true},
		},
		Seen: []api.Seen{
			{Sess: 770, Num: 78, Ver: ver.Make(79, 80), Kind: 81, Code: 82, Res: "seen", HasRes: true},
			{Sess: 71, Num: -72, Ver: ver.Make(73, 74), Kind: 75, Code: 76, Res: "again"},
		},
	}
}

func fullMsg() api.Msg {
	return api.Msg{
		Kind: 1, From: 2, To: 3, Boot: 4, SBoot: 500, Shard: 6, Epoch: -7, Gen: 8, Sess: 9, Num: 10, A: -110, Code: 120,
		Has: true, Fresh: true, Key: "key", Val: "values",
		Ver: ver.Make(130, 140), Floor: ver.Make(150, 160),
		Op: fullOp(), Entries: fullEntries(), Chain: fullChain(), Views: fullViews(), Image: fullImage(),
	}
}

// onesImage and onesMsg have one zero item in each list.
func onesImage() api.Image {
	return api.Image{Log: make([]api.Entry, 1), Seen: make([]api.Seen, 1)}
}

func onesViews() []api.View { return []api.View{{Chain: make([]api.Member, 1)}} }

func onesMsg() api.Msg {
	return api.Msg{Entries: make([]api.Entry, 1), Chain: make([]api.Member, 1), Views: onesViews(), Image: onesImage()}
}

// edgeInts has the least and the greatest int, and those at which a byte more is needed.
var edgeInts = []int{0, 1, -1, 63, 64, -64, -65, 8191, 8192, -8193, 1 << 31, 1 << 32, api.MaxList + 1, api.MaxCount + 1, 1<<62 - 1, 1 << 62, math.MaxInt - 1, math.MaxInt, math.MinInt, math.MinInt + 1}

// edgeVers has versions of epoch and number 0 and MaxCount, and what lies between.
func edgeVers() []api.Ver {
	var l []api.Ver
	edges := []int{0, 1, 64, 8192, api.MaxCount - 1, api.MaxCount}
	for _, epoch := range edges {
		for _, num := range edges {
			l = append(l, ver.Make(epoch, num))
		}
	}
	return l
}

// edgeTexts has the empty one, one of MaxText bytes, those of any bytes, and those at whose lengths a byte more is needed.
func edgeTexts() []string {
	l := []string{"", "a", "ab", "\x00", "\x80", "\xff\xff", "\u20ac uro", "\x00\x00\x00\x00\x00\x00\x00\x00\x00\x00\x00\x00"}
	for _, n := range []int{63, 64, api.MaxText - 1, api.MaxText} {
		l = append(l, strings.Repeat("t", n))
	}
	return l
}

// edges has a field's edges, by its type: none, if it is made of others.
func edges(field reflect.Value) []any {
	var l []any
	switch field.Interface().(type) {
	case int:
		for _, x := range edgeInts {
			l = append(l, x)
		}
	case bool:
		l = []any{false, true}
	case string:
		for _, x := range edgeTexts() {
			l = append(l, x)
		}
	case api.Ver:
		for _, x := range edgeVers() {
			l = append(l, x)
		}
	}
	return l
}

// fields has all fields that are made of no others, those of fields and of items too, in the order in which the types name them.
func fields(x reflect.Value) []reflect.Value {
	var l []reflect.Value
	switch x.Kind() {
	case reflect.Struct:
		for i := range x.NumField() {
			l = append(l, fields(x.Field(i))...)
		}
	case reflect.Slice:
		for i := range x.Len() {
			l = append(l, fields(x.Index(i))...)
		}
	default:
		l = append(l, x)
	}
	return l
}

// varied is what base makes, with each of its fields, by itself, being each of the edges.
func varied[T any](base func() T) []T {
	l := []T{base()}
	x := base()
	for i, field := range fields(reflect.ValueOf(&x).Elem()) {
		for _, edge := range edges(field) {
			y := base()
			fields(reflect.ValueOf(&y).Elem())[i].Set(reflect.ValueOf(edge))
			l = append(l, y)
		}
	}
	return l
}

// lengths has those of lists: none, a few, those at which a byte more is needed, and MaxList.
var lengths = []int{0, 1, 2, 3, 63, 64, 65, api.MaxList - 1, api.MaxList}

// many is so many items, each another one.
func many[T any](n int, item func(i int) T) []T {
	l := make([]T, n)
	for i := range l {
		l[i] = item(i)
	}
	return l
}

func entries(n int) []api.Entry {
	return many(n, func(i int) api.Entry { return api.Entry{Ver: ver.Make(1, i), Num: i + 1, Write: i%2 == 0} })
}

func chain(n int) []api.Member {
	return many(n, func(i int) api.Member { return api.Member{Node: i + 2, Boot: n - i} })
}

func views(n int) []api.View {
	return many(n, func(i int) api.View { return api.View{Shard: i, Gen: n - i, Chain: chain(i % 3)} })
}

func calls(n int) []api.Seen {
	return many(n, func(i int) api.Seen { return api.Seen{Sess: i + 1, Num: n - i, HasRes: i%2 == 1} })
}

func listedImages() []api.Image {
	var l []api.Image
	for _, n := range lengths {
		l = append(l, api.Image{Log: entries(n)}, api.Image{Seen: calls(n)})
	}
	return append(l, api.Image{Log: entries(api.MaxList), Seen: calls(api.MaxList)})
}

func listedViews() [][]api.View {
	var l [][]api.View
	for _, n := range lengths {
		l = append(l, views(n), []api.View{{Chain: chain(n)}}, []api.View{{Shard: 1}, {Shard: 2, Chain: chain(n)}, {Shard: 3}})
	}
	return append(l, append(views(api.MaxList-1), api.View{Chain: chain(api.MaxList)}))
}

func listedMsgs() []api.Msg {
	var l []api.Msg
	for _, n := range lengths {
		l = append(l, api.Msg{Entries: entries(n)}, api.Msg{Chain: chain(n)})
	}
	for _, x := range listedViews() {
		l = append(l, api.Msg{Views: x})
	}
	for _, x := range listedImages() {
		l = append(l, api.Msg{Image: x})
	}
	const n = api.MaxList
	return append(l, api.Msg{Entries: entries(n), Chain: chain(n), Views: views(n), Image: api.Image{Log: entries(n), Seen: calls(n)}})
}

// oneMsg has one list, and its memory, in all places of a type.
func oneMsg() api.Msg {
	e, c := fullEntries(), fullChain()
	v := api.View{Shard: 1, Chain: c}
	return api.Msg{Entries: e, Chain: c, Views: []api.View{v, v, v}, Image: api.Image{Log: e}}
}

func allMsgs() []api.Msg {
	l := varied(func() api.Msg { return api.Msg{} })
	l = append(l, varied(onesMsg)...)
	l = append(l, varied(fullMsg)...)
	return append(append(l, listedMsgs()...), oneMsg())
}

func allImages() []api.Image {
	l := varied(func() api.Image { return api.Image{} })
	l = append(l, varied(onesImage)...)
	l = append(l, varied(fullImage)...)
	return append(l, listedImages()...)
}

func allViews() [][]api.View {
	l := append(varied(onesViews), varied(fullViews)...)
	return append(append(l, nil), listedViews()...)
}

// things has all of them. They are made once, as there are many: no test changes them.
var things = sync.OnceValue(func() []thing {
	l := slices.Clip(openThings())
	for _, m := range allMsgs() {
		l = append(l, ofMsg(m))
	}
	return l
})

// openThings has those that may stand among other bytes: images and views.
var openThings = sync.OnceValue(func() []thing {
	var l []thing
	for _, x := range allImages() {
		l = append(l, ofImage(x))
	}
	for _, x := range allViews() {
		l = append(l, ofViews(x))
	}
	return l
})

// few has the zero ones, those of one zero item in each list, and the full ones.
func few() []thing {
	return []thing{
		ofMsg(api.Msg{}), ofMsg(onesMsg()), ofMsg(fullMsg()),
		ofImage(api.Image{}), ofImage(onesImage()), ofImage(fullImage()),
		ofViews(nil), ofViews(onesViews()), ofViews(fullViews()),
	}
}
