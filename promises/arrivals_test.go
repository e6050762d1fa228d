package promises

import (
	"testing"

	"ferry/api"
	"ferry/ferry"
)

// fateOf: P8, of bytes that are not a piece, with these backends.
func fateOf(b []byte, backends []uint8) (api.Fate, uint8) {
	p, e := answer(b)
	if e != api.OK {
		return api.Malformed, 0
	}
	if len(backends) == 0 {
		return api.NoBackend, 0
	}
	return api.Delivered, tableOf(backends)[flowSlot(p)]
}

// isPiece: bytes of a piece.
func isPiece(b []byte) bool {
	p, e := answer(b)
	return e == api.OK && (p.Off > 0 || p.More)
}

func TestP8Examples(t *testing.T) {
	whole := written(api.Packet{Src: 1, Dst: 2, Proto: 6, Id: 7, Sport: 80, Dport: 443, Data: []byte("hi")})
	x := begin(t, 1, 2)
	checkTake(t, x)
	checkArrive(t, x, 0, whole, 0)
	checkTake(t, x, api.Event{Seq: 0, Fate: api.NoBackend})
	setBackends(t, x, []uint8{9}, api.OK)
	checkArrive(t, x, 0, whole, 1)
	checkTake(t, x, api.Event{Seq: 1, Fate: api.Delivered, Where: 9})
	checkTake(t, x)
}

// TestP8Malformed: each error of Unpack, with backends and without; the number is used up all the same.
func TestP8Malformed(t *testing.T) {
	good := written(api.Packet{Src: 1, Sport: 2, Data: some(6)})
	version := summed(append(numbers(18), good[1:]...))
	sum := append([]byte(nil), good...)
	sum[10] ^= 1
	wrong := [][]byte{nil, {}, good[:11], version, good[:len(good)-1], append(append([]byte(nil), good...), 0), good[:12], sum,
		written(api.Packet{Off: 16, Data: some(4)}), written(api.Packet{More: true, Data: some(3)}), written(api.Packet{More: true}), written(api.Packet{Data: some(33)}), written(api.Packet{Off: 1}), make([]byte, 1<<20)}
	for _, list := range [][]uint8{nil, {7}} {
		x := begin(t, 3, 1, list...)
		for i, b := range wrong {
			checkArrive(t, x, i%3, b, 2*i)
			checkArrive(t, x, i%3, good, 2*i+1)
			fate, where := fateOf(good, list)
			checkTake(t, x, api.Event{Seq: 2 * i, Fate: api.Malformed}, api.Event{Seq: 2*i + 1, Fate: fate, Where: where})
		}
	}
}

// TestP8Wholes: a whole packet goes where Choose says, from whichever replica, with Data or without.
func TestP8Wholes(t *testing.T) {
	list := []uint8{60, 10, 50, 20, 40, 30}
	x := begin(t, 5, 1, list...)
	for i, p := range flows() {
		p.Data = some(i + 1)
		if i%3 == 0 {
			p.Data = nil
		}
		for replica := range 5 {
			seq := 5*i + replica
			checkArrive(t, x, replica, written(p), seq)
			checkTake(t, x, api.Event{Seq: seq, Where: tableOf(list)[i]})
		}
		where, e := x.Choose(p)
		if where != tableOf(list)[i] || e != api.OK {
			t.Errorf("P8: Choose(%v) = %d, %d, but it was delivered to %d", p, where, e, tableOf(list)[i])
		}
	}
}

// TestP8Later: what arrived earlier stays as it was told, whatever becomes of the backends before the Take.
func TestP8Later(t *testing.T) {
	b := written(api.Packet{Src: 3, Dst: 4, Proto: 17, Sport: 5, Dport: 6})
	x := begin(t, 2, 1)
	checkArrive(t, x, 0, b, 0)
	setBackends(t, x, []uint8{11}, api.OK)
	checkArrive(t, x, 1, b, 1)
	setBackends(t, x, []uint8{12}, api.OK)
	checkArrive(t, x, 0, b, 2)
	setBackends(t, x, nil, api.OK)
	checkArrive(t, x, 1, b, 3)
	checkTake(t, x, api.Event{Seq: 0, Fate: api.NoBackend}, api.Event{Seq: 1, Where: 11}, api.Event{Seq: 2, Where: 12}, api.Event{Seq: 3, Fate: api.NoBackend})
	checkTake(t, x)
}

// TestP8Numbers: one row of numbers for all replicas, and for pieces too; Take does not begin it anew.
func TestP8Numbers(t *testing.T) {
	whole := written(api.Packet{Src: 3})
	later := written(api.Packet{Src: 3, Off: 2, Data: some(4)})
	first := written(api.Packet{Src: 3, More: true, Data: some(4)})
	x := begin(t, 4, 20, 1)
	for seq := range 400 {
		b := [][]byte{whole, later, nil, first}[seq/4%4]
		checkArrive(t, x, (seq+seq/4)%4, b, seq)
		if seq%7 == 0 {
			x.Take()
		}
	}
}

// TestP8Pieces: a later piece of a datagram whose first piece has not come has no event, at its owner or elsewhere; it is not malformed, nor passed on by its ports 0.
func TestP8Pieces(t *testing.T) {
	for replicas := 1; replicas <= 5; replicas++ {
		for replica := range replicas {
			for _, list := range [][]uint8{nil, {9}} {
				x := begin(t, replicas, 20, list...)
				checkArrive(t, x, replica, written(api.Packet{Src: 3, Off: 2, More: true, Data: some(4)}), 0)
				checkArrive(t, x, replica, written(api.Packet{Src: 3, Off: 3, Data: some(4)}), 1)
				checkTake(t, x)
			}
		}
	}
}

// step: one arrival, mostly of bytes that are no piece; what it should become is added to the events to come.
func (s *source) step(t *testing.T, x *ferry.Cluster, replicas, seq int, backends []uint8, due []api.Event) []api.Event {
	b := written(api.Packet{Src: uint16(s.below(9)), Sport: uint16(s.below(65536)), Id: uint16(s.below(9)), Data: s.bytes(s.below(33))})
	if s.below(3) == 0 {
		b = s.damaged()
	}
	checkArrive(t, x, s.below(replicas), b, seq)
	if isPiece(b) {
		return due
	}
	fate, where := fateOf(b, backends)
	return append(due, api.Event{Seq: seq, Fate: fate, Where: where})
}

// TestP8Many: any arrivals, backends and takes between; of the events those of pieces are left out.
func TestP8Many(t *testing.T) {
	s := &source{8}
	for range 200 {
		replicas := 1 + s.below(5)
		x := begin(t, replicas, 20)
		var list []uint8
		var due []api.Event
		piece := map[int]bool{}
		for seq := range 60 {
			before := len(due)
			due = s.step(t, x, replicas, seq, list, due)
			piece[seq] = len(due) == before
			if s.below(6) == 0 {
				list = s.backends(6)
				setBackends(t, x, list, api.OK)
			}
			if s.below(6) == 0 {
				checkEvents(t, x.Take(), due, piece)
				due = nil
			}
		}
		checkEvents(t, x.Take(), due, piece)
		if t.Failed() {
			return
		}
	}
}

// checkEvents: those of what is no piece are as due, in order; none of a piece is Malformed.
func checkEvents(t *testing.T, taken, due []api.Event, piece map[int]bool) {
	t.Helper()
	n := 0
	for _, v := range taken {
		if piece[v.Seq] && v.Fate != api.Malformed {
			continue
		}
		if n >= len(due) || v != due[n] {
			t.Fatalf("P8: Take() = %v, want in it %v", taken, due)
		}
		n++
	}
	if n != len(due) {
		t.Fatalf("P8: Take() = %v, want in it %v", taken, due)
	}
}
