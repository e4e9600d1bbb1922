package store_test

import (
	"encoding/binary"
	"hash/fnv"

	"lockgate/api"
)

// What stands on a disk is written here by Go's own library, which knows nothing of the program.

// framed is frames in a row.
func framed(recs ...string) string {
	var all []byte
	for _, rec := range recs {
		size := binary.LittleEndian.AppendUint32(nil, uint32(len(rec)))
		h := fnv.New64a()
		h.Write(size)
		h.Write([]byte(rec))
		all = append(all, binary.LittleEndian.AppendUint64(size, h.Sum64())...)
		all = append(all, rec...)
	}
	return string(all)
}

// writer writes as chapters 3, 5 and 6 say. (Go's own signed numbers of changing length are chapter 3's.)
type writer struct{ b []byte }

func (w *writer) ints(l ...int) {
	for _, n := range l {
		w.b = binary.AppendVarint(w.b, int64(n))
	}
}

func (w *writer) truths(l ...bool) {
	for _, is := range l {
		if is {
			w.b = append(w.b, 1)
		} else {
			w.b = append(w.b, 0)
		}
	}
}

func (w *writer) texts(l ...string) {
	for _, s := range l {
		w.ints(len(s))
		w.b = append(w.b, s...)
	}
}

func (w *writer) vers(l ...api.Ver) {
	for _, x := range l {
		w.ints(int(real(x)), int(imag(x)))
	}
}

func (w *writer) entries(l []api.Entry) {
	w.ints(len(l))
	for _, e := range l {
		w.vers(e.Ver)
		w.ints(e.Kind)
		w.texts(e.Key, e.Val)
		w.truths(e.Write, e.Del)
		w.ints(e.Sess, e.Num, e.Code)
		w.texts(e.Res)
		w.truths(e.HasRes)
	}
}

func (w *writer) members(l []api.Member) {
	w.ints(len(l))
	for _, x := range l {
		w.ints(x.Node, x.Boot)
	}
}

func (w *writer) views(l []api.View) {
	w.ints(len(l))
	for _, x := range l {
		w.ints(x.Shard, x.Epoch, x.Gen, x.Phase)
		w.members(x.Chain)
	}
}

func (w *writer) image(x api.Image) {
	w.vers(x.Floor, x.Last)
	w.ints(x.Gen)
	w.entries(x.Log)
	w.ints(len(x.Seen))
	for _, s := range x.Seen {
		w.ints(s.Sess, s.Num)
		w.vers(s.Ver)
		w.ints(s.Kind, s.Code)
		w.texts(s.Res)
		w.truths(s.HasRes)
	}
}

// written is the message's bytes.
func written(m api.Msg) string {
	w := &writer{}
	w.ints(m.Kind, m.From, m.To, m.Boot, m.SBoot, m.Shard, m.Epoch, m.Gen, m.Sess, m.Num, m.A, m.Code)
	w.truths(m.Has, m.Fresh)
	w.texts(m.Key, m.Val)
	w.vers(m.Ver, m.Floor)
	w.ints(m.Op.Kind)
	w.texts(m.Op.Key, m.Op.Val, m.Op.Old)
	w.truths(m.Op.HasOld)
	w.entries(m.Entries)
	w.members(m.Chain)
	w.views(m.Views)
	w.image(m.Image)
	return string(w.b)
}

// frames is those of the messages, one behind the other.
func frames(l ...api.Msg) string {
	var recs []string
	for _, m := range l {
		recs = append(recs, written(m))
	}
	return framed(recs...)
}
