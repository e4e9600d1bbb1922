package msg_test

import (
	"encoding/binary"
	"reflect"
	"slices"
	"strconv"

	"lockgate/api"
	"lockgate/msg"
)

// told is a number's bytes as Go's own library has them, which knows nothing of the program.
func told(n int) []byte { return binary.AppendVarint(nil, int64(n)) }

// row is bytes in a row, written out.
func row(l ...byte) []byte { return l }

// noughts is so many bytes of 0.
func noughts(n int) []byte { return make([]byte, n) }

// join is lists of bytes, one behind the other, in memory of its own, without room behind.
func join(l ...[]byte) []byte { return slices.Clip(slices.Concat(l...)) }

// brief keeps what a failing test prints short.
func brief(b []byte) string {
	s := ""
	for _, x := range b[:min(len(b), 40)] {
		s += strconv.Itoa(int(x)) + " "
	}
	if len(b) > 40 {
		s += ".. (" + strconv.Itoa(len(b)) + " bytes)"
	}
	return s
}

// part is a field, one of a version's two numbers, or how many items a list has: of what kind it is, and its bytes. Of a list: how many items it has, and of how many bytes the least one is.
type part struct {
	kind, name   string
	bytes        []byte
	items, least int
}

// The kinds of parts: counts are numbers from 0 to MaxCount.
const (
	isNumber = "number"
	isCount  = "count"
	isText   = "text"
	isTruth  = "truth"
	isLength = "length"
)

func number(name string, n int) part { return part{kind: isNumber, name: name, bytes: told(n)} }

func count(name string, x float64) part { return part{kind: isCount, name: name, bytes: told(int(x))} }

func text(name, s string) part {
	return part{kind: isText, name: name, bytes: join(told(len(s)), []byte(s))}
}

func truth(name string, is bool) part {
	p := part{kind: isTruth, name: name, bytes: row(0)}
	if is {
		p.bytes = row(1)
	}
	return p
}

func version(name string, v api.Ver) []part {
	return []part{count(name+"'s epoch", real(v)), count(name+"'s number", imag(v))}
}

// list is a list's parts: how many items it has, and each item's.
func list[T any](name string, l []T, item func(name string, x T) []part) []part {
	var none T
	least := 0
	for _, p := range item("", none) {
		least += len(p.bytes)
	}
	parts := []part{{isLength, name, told(len(l)), len(l), least}}
	for i, x := range l {
		parts = append(parts, item(name+" "+strconv.Itoa(i)+"'s ", x)...)
	}
	return parts
}

func partsOfOp(name string, o api.Op) []part {
	return []part{number(name+"Kind", o.Kind), text(name+"Key", o.Key), text(name+"Val", o.Val), text(name+"Old", o.Old), truth(name+"HasOld", o.HasOld)}
}

func partsOfEntry(name string, e api.Entry) []part {
	return slices.Concat(version(name+"Ver", e.Ver), []part{
		number(name+"Kind", e.Kind),
		text(name+"Key", e.Key), text(name+"Val", e.Val),
		truth(name+"Write", e.Write), truth(name+"Del", e.Del),
		number(name+"Sess", e.Sess), number(name+"Num", e.Num), number(name+"Code", e.Code),
		text(name+"Res", e.Res),
		truth(name+"HasRes", e.HasRes),
	})
}

func partsOfMember(name string, x api.Member) []part {
	return []part{number(name+"Node", x.Node), number(name+"Boot", x.Boot)}
}

func partsOfView(name string, v api.View) []part {
	l := []part{number(name+"Shard", v.Shard), number(name+"Epoch", v.Epoch), number(name+"Gen", v.Gen), number(name+"Phase", v.Phase)}
	return append(l, list(name+"Chain", v.Chain, partsOfMember)...)
}

func partsOfSeen(name string, s api.Seen) []part {
	return slices.Concat(
		[]part{number(name+"Sess", s.Sess), number(name+"Num", s.Num)},
		version(name+"Ver", s.Ver),
		[]part{number(name+"Kind", s.Kind), number(name+"Code", s.Code), text(name+"Res", s.Res), truth(name+"HasRes", s.HasRes)},
	)
}

func partsOfImage(name string, x api.Image) []part {
	return slices.Concat(
		version(name+"Floor", x.Floor), version(name+"Last", x.Last),
		[]part{number(name+"Gen", x.Gen)},
		list(name+"Log", x.Log, partsOfEntry),
		list(name+"Seen", x.Seen, partsOfSeen),
	)
}

func partsOfMsg(m api.Msg) []part {
	return slices.Concat(
		[]part{
			number("Kind", m.Kind), number("From", m.From), number("To", m.To), number("Boot", m.Boot), number("SBoot", m.SBoot),
			number("Shard", m.Shard), number("Epoch", m.Epoch), number("Gen", m.Gen), number("Sess", m.Sess), number("Num", m.Num),
			number("A", m.A), number("Code", m.Code),
			truth("Has", m.Has), truth("Fresh", m.Fresh),
			text("Key", m.Key), text("Val", m.Val),
		},
		version("Ver", m.Ver), version("Floor", m.Floor),
		partsOfOp("Op's ", m.Op),
		list("Entries", m.Entries, partsOfEntry),
		list("Chain", m.Chain, partsOfMember),
		list("Views", m.Views, partsOfView),
		partsOfImage("Image's ", m.Image),
	)
}

// answer is all that a Get tells.
type answer struct {
	value  any
	behind int
	ok     bool
}

// kind is messages, images, or views: how they are written and read, what is answered where none stands, and which other bytes may be ahead and behind. (A message's bytes are all the bytes there are: what is told to be ahead of it isn't handed in.)
type kind struct {
	name          string
	put           func(out []byte, value any) []byte
	get           func(b []byte, at int) answer
	none          answer
	ahead, behind [][]byte
}

var messages = kind{"message",
	func(out []byte, value any) []byte {
		b := msg.Put(value.(api.Msg))
		if len(out) == 0 {
			return b
		}
		return join(out, b)
	},
	func(b []byte, at int) answer {
		m, ok := msg.Get(b[at:])
		if ok {
			return answer{m, len(b), true}
		}
		return answer{m, 0, false}
	},
	answer{api.Msg{}, 0, false},
	[][]byte{nil}, [][]byte{nil},
}

var images = kind{"image",
	func(out []byte, value any) []byte { return msg.PutImage(out, value.(api.Image)) },
	func(b []byte, at int) answer {
		x, behind, ok := msg.GetImage(b, at)
		return answer{x, behind, ok}
	},
	answer{api.Image{}, 0, false},
	around(), around(),
}

var viewLists = kind{"list of views",
	func(out []byte, value any) []byte { return msg.PutViews(out, value.([]api.View)) },
	func(b []byte, at int) answer {
		l, behind, ok := msg.GetViews(b, at)
		return answer{l, behind, ok}
	},
	answer{[]api.View(nil), 0, false},
	around(), around(),
}

func around() [][]byte { return [][]byte{nil, row(0), row(5, 128, 1), row(255, 255), noughts(30)} }

// thing is a message, an image or views, and its parts as the chapter has them.
type thing struct {
	kind
	value any
	parts []part
}

func ofMsg(m api.Msg) thing { return thing{messages, m, partsOfMsg(m)} }

func ofImage(x api.Image) thing { return thing{images, x, partsOfImage("", x)} }

func ofViews(l []api.View) thing { return thing{viewLists, l, list("Views", l, partsOfView)} }

// bytes is the thing's bytes, told without the program.
func (x thing) bytes() []byte { return x.with(-1, nil) }

// with is the thing's bytes, but for the part i, which has others.
func (x thing) with(i int, others []byte) []byte {
	l := make([][]byte, len(x.parts))
	for j, p := range x.parts {
		l[j] = p.bytes
		if i == j {
			l[j] = others
		}
	}
	return join(l...)
}

// rest is how many bytes stand behind the part i.
func (x thing) rest(i int) int {
	n := 0
	for _, p := range x.parts[i+1:] {
		n += len(p.bytes)
	}
	return n
}

func (x thing) String() string { return "the " + x.name + " of " + brief(x.bytes()) }

// same tells whether two answers are one: nil and empty lists are.
func same(a, b answer) bool {
	return a.behind == b.behind && a.ok == b.ok && alike(a.value, b.value)
}

func alike(a, b any) bool { return reflect.DeepEqual(plain(a), plain(b)) }

// plain has nil in place of each empty list.
func plain(value any) any {
	switch x := value.(type) {
	case api.Msg:
		x.Entries, x.Chain, x.Views, x.Image = plainList(x.Entries), plainList(x.Chain), plainViews(x.Views), plainImage(x.Image)
		return x
	case api.Image:
		return plainImage(x)
	case []api.View:
		return plainViews(x)
	}
	return value
}

func plainList[T any](l []T) []T {
	if len(l) == 0 {
		return nil
	}
	return l
}

func plainViews(l []api.View) []api.View {
	var p []api.View
	for _, v := range l {
		v.Chain = plainList(v.Chain)
		p = append(p, v)
	}
	return p
}

func plainImage(x api.Image) api.Image {
	x.Log, x.Seen = plainList(x.Log), plainList(x.Seen)
	return x
}
