package promises

import (
	"bytes"
	"slices"
	"testing"

	"ferry/api"
	"ferry/ferry"
)

// roomy: a copy of b with spare room behind it, and the whole of it, room and all.
func roomy(b []byte) (list, whole []byte) {
	whole = append(bytes.Clone(b), bytes.Repeat([]byte{0xa5}, 64)...)
	return whole[:len(b)], whole
}

// scribble: writes into a list and its spare room.
func scribble(l []byte) {
	l = l[:cap(l)]
	for i := range l {
		l[i] ^= 0xff
	}
}

// checkApart: no two lists have a place in common, nor one with the spare room of another. (To write twice is as if never.)
func checkApart[T comparable](t *testing.T, lists [][]T, write func([]T)) {
	t.Helper()
	var kept [][]T
	for _, l := range lists {
		kept = append(kept, slices.Clone(l[:cap(l)]))
	}
	for i, l := range lists {
		write(l)
		for k, m := range lists {
			if k != i && !slices.Equal(m[:cap(m)], kept[k]) {
				t.Errorf("P2: the lists %d and %d share memory", i, k)
			}
		}
		write(l)
	}
}

// checkKept: lists that came out, and their spare room, are as they were.
func checkKept[T comparable](t *testing.T, call string, lists, kept [][]T) {
	t.Helper()
	for i, l := range lists {
		if !slices.Equal(l[:cap(l)], kept[i]) {
			t.Errorf("P2: what %s told has changed since: %v, was %v", call, l[:cap(l)], kept[i])
		}
	}
}

// packets: of each kind, with no Data and with much, well-formed and not.
func packets() []api.Packet {
	return []api.Packet{
		{Src: 1, Sport: 2, Dport: 3}, {Src: 1, Sport: 2, Dport: 3, Data: some(5)}, {Data: some(32)}, {More: true, Data: some(8)}, {More: true, Data: some(32)},
		{Off: 1, Data: some(1)}, {Off: 15, More: true, Data: some(32)}, {Off: 16, Data: some(4)}, {Data: some(33)}, {Off: 1}, {More: true, Data: some(3)}, {Off: 1, Sport: 1, Data: some(4)},
	}
}

func TestP2Pack(t *testing.T) {
	for _, p := range packets() {
		list, whole := roomy(p.Data)
		before := bytes.Clone(whole)
		p.Data = list
		b, e := ferry.Pack(p)
		c, _ := ferry.Pack(p)
		if !bytes.Equal(whole, before) {
			t.Errorf("P2: Pack(%v) writes into Data or behind it", p)
		}
		kept := bytes.Clone(b)
		scribble(c)
		if !bytes.Equal(whole, before) || !bytes.Equal(b, kept) {
			t.Errorf("P2: Pack(%v): the answer shares memory with Data, or with another answer", p)
		}
		scribble(whole)
		if !bytes.Equal(b, kept) {
			t.Errorf("P2: Pack(%v): the answer changes with Data", p)
		}
		scribble(whole)
		again, f := ferry.Pack(p)
		if f != e || !bytes.Equal(again, kept) {
			t.Errorf("P2: Pack(%v) = %v, %d, and later %v, %d", p, kept, e, again, f)
		}
	}
}

func TestP2Unpack(t *testing.T) {
	for _, p := range packets() {
		list, whole := roomy(written(p))
		before := bytes.Clone(whole)
		q, e := ferry.Unpack(list)
		r, _ := ferry.Unpack(list)
		if !bytes.Equal(whole, before) {
			t.Errorf("P2: Unpack(%v) writes into the bytes or behind them", list)
		}
		kept := bytes.Clone(q.Data)
		scribble(r.Data)
		if !bytes.Equal(whole, before) || !bytes.Equal(q.Data, kept) {
			t.Errorf("P2: Unpack(%v): Data share memory with the bytes, or with another answer", list)
		}
		scribble(whole)
		if !bytes.Equal(q.Data, kept) {
			t.Errorf("P2: Unpack(%v): Data change with the bytes", list)
		}
		scribble(whole)
		again, f := ferry.Unpack(list)
		if f != e || !bytes.Equal(again.Data, kept) {
			t.Errorf("P2: Unpack(%v): Data %v, %d, and later %v, %d", list, kept, e, again.Data, f)
		}
	}
}

// TestP2Spare: of answers of different calls none reaches into another, nor into its spare room.
func TestP2Spare(t *testing.T) {
	var lists [][]byte
	for _, p := range packets() {
		b, _ := ferry.Pack(p)
		q, _ := ferry.Unpack(written(p))
		lists = append(lists, b, q.Data)
	}
	checkApart(t, lists, scribble)
}

func TestP2Hash(t *testing.T) {
	for n := range 40 {
		list, whole := roomy(some(n))
		before := bytes.Clone(whole)
		h := ferry.Hash(list)
		if !bytes.Equal(whole, before) {
			t.Errorf("P2: Hash writes into %d bytes or behind them", n)
		}
		scribble(whole[n:])
		ferry.Hash(some(n + 1))
		again := ferry.Hash(list)
		if again != h {
			t.Errorf("P2: Hash of the same %d bytes is %d, and later %d", n, h, again)
		}
	}
}
