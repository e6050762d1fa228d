package promises

import (
	"slices"
	"testing"

	"ferry/api"
	"ferry/ferry"
)

// part: a piece of the datagram with that Id, of the flow 1, 2, 6, 80, 443: the bytes from one on, up to another.
type part struct {
	id       uint16
	from, to int
	more     bool
}

func (c part) packet() api.Packet {
	p := api.Packet{Src: 1, Dst: 2, Proto: 6, Id: c.id, Off: uint8(c.from / 4), More: c.more, Data: some(c.to - c.from)}
	if c.from == 0 {
		p.Sport, p.Dport = 80, 443
	}
	return p
}

func (c part) bytes() []byte { return written(c.packet()) }

// to: what delivers an arrival.
func to(where uint8, seqs ...int) []api.Event {
	var l []api.Event
	for _, seq := range seqs {
		l = append(l, api.Event{Seq: seq, Fate: api.Delivered, Where: where})
	}
	return l
}

// refused: what tells that an arrival goes nowhere.
func refused(seq int, fate api.Fate) []api.Event {
	return []api.Event{{Seq: seq, Fate: fate}}
}

// checkPart: a piece arrives, and what it brings about is told at once.
func checkPart(t *testing.T, x *ferry.Cluster, replica int, c part, seq int, want []api.Event) {
	t.Helper()
	n, e := x.Arrive(replica, c.bytes())
	l := x.Take()
	if n != seq || e != api.OK || !slices.Equal(l, want) {
		t.Errorf("P10: Arrive(%d) of %v = %d, %d, want %d, 0; then Take() = %v, want %v", replica, c, n, e, seq, l, want)
	}
}

func checkHeld(t *testing.T, x *ferry.Cluster, replica, entries, pieces, bytes int) {
	t.Helper()
	l, e := x.Held(replica)
	if l != (api.Load{Entries: entries, Pieces: pieces, Bytes: bytes}) || e != api.OK {
		t.Errorf("P10: Held(%d) = %v, %d, want {%d %d %d}, 0", replica, l, e, entries, pieces, bytes)
	}
}

func TestP10Examples(t *testing.T) {
	x := begin(t, 1, 20, 9)
	checkHeld(t, x, 0, 0, 0, 0)
	checkPart(t, x, 0, part{7, 8, 12, false}, 0, nil)
	checkHeld(t, x, 0, 1, 1, 4)
	checkPart(t, x, 0, part{7, 0, 8, true}, 1, to(9, 1, 0))
	checkHeld(t, x, 0, 0, 0, 0)
	checkPart(t, x, 0, part{7, 0, 8, true}, 2, to(9, 2))
	checkPart(t, x, 0, part{7, 0, 8, true}, 3, refused(3, api.Overlap))
	checkHeld(t, x, 0, 1, 0, 0)
	y := begin(t, 1, 2)
	checkPart(t, y, 0, part{7, 0, 8, true}, 0, refused(0, api.NoBackend))
	checkHeld(t, y, 0, 0, 0, 0)
	checkPart(t, y, 0, part{7, 8, 12, false}, 1, nil)
	checkHeld(t, y, 0, 1, 1, 4)
}

// TestP10NoBackend: case 1 is told ahead of all others, and changes nothing; a later piece does not ask for backends.
func TestP10NoBackend(t *testing.T) {
	x := begin(t, 1, 20)
	checkPart(t, x, 0, part{1, 0, 8, true}, 0, refused(0, api.NoBackend))
	checkHeld(t, x, 0, 0, 0, 0)
	checkPart(t, x, 0, part{1, 4, 8, true}, 1, nil)
	checkPart(t, x, 0, part{1, 0, 8, true}, 2, refused(2, api.NoBackend)) // it overlaps as well
	checkPart(t, x, 0, part{1, 0, 4, true}, 3, refused(3, api.NoBackend))
	checkPart(t, x, 0, part{2, 4, 8, true}, 4, nil)
	checkPart(t, x, 0, part{3, 4, 8, true}, 5, nil)
	checkPart(t, x, 0, part{4, 0, 4, true}, 6, refused(6, api.NoBackend)) // there is no room as well
	checkPart(t, x, 0, part{4, 4, 8, true}, 7, refused(7, api.Full))
	checkHeld(t, x, 0, 3, 3, 12)
	setBackends(t, x, []uint8{0}, api.OK)
	checkPart(t, x, 0, part{1, 0, 4, true}, 8, to(0, 8, 1))
	setBackends(t, x, nil, api.OK)
	checkPart(t, x, 0, part{1, 0, 4, true}, 9, refused(9, api.NoBackend))
	checkPart(t, x, 0, part{1, 8, 9, false}, 10, to(0, 10)) // its backend is known, and there are none now
	checkPart(t, x, 0, part{2, 8, 9, false}, 11, nil)
	checkHeld(t, x, 0, 2, 3, 9)
}

// TestP10Entries: case 2; the fourth datagram finds no room, till one of the three is gone; what they have is untouched.
func TestP10Entries(t *testing.T) {
	x := begin(t, 1, 20, 9)
	checkPart(t, x, 0, part{1, 4, 8, false}, 0, nil)
	checkPart(t, x, 0, part{2, 0, 4, true}, 1, to(9, 1))
	checkPart(t, x, 0, part{3, 8, 12, true}, 2, nil)
	checkPart(t, x, 0, part{4, 0, 4, true}, 3, refused(3, api.Full))
	checkPart(t, x, 0, part{4, 4, 8, true}, 4, refused(4, api.Full))
	checkPart(t, x, 0, part{4, 4, 5, false}, 5, refused(5, api.Full))
	checkHeld(t, x, 0, 3, 2, 8)
	checkPart(t, x, 0, part{2, 4, 8, true}, 6, to(9, 6)) // it has an entry
	checkPart(t, x, 0, part{3, 4, 8, true}, 7, nil)
	checkPart(t, x, 0, part{1, 0, 4, true}, 8, to(9, 8, 0)) // its entry is gone
	checkHeld(t, x, 0, 2, 2, 8)
	checkPart(t, x, 0, part{4, 4, 8, false}, 9, nil)
	checkPart(t, x, 0, part{1, 0, 4, true}, 10, refused(10, api.Full))
	checkPart(t, x, 0, part{3, 0, 4, true}, 11, to(9, 11, 2, 7))
	checkPart(t, x, 0, part{2, 8, 12, false}, 12, to(9, 12))
	checkPart(t, x, 0, part{4, 0, 4, true}, 13, to(9, 13, 9))
	checkPart(t, x, 0, part{3, 12, 44, false}, 14, to(9, 14))
	checkHeld(t, x, 0, 0, 0, 0)
}

// TestP10Apart: each field of a datagram's four tells it from another; the ports do not.
func TestP10Apart(t *testing.T) {
	base := api.Packet{Src: 3, Dst: 4, Proto: 5, Id: 6, Off: 1, More: true, Data: some(4)}
	others := []api.Packet{base, base, base, base}
	others[0].Src, others[1].Dst, others[2].Proto, others[3].Id = 3+256, 4+256, 6, 6+256
	for _, other := range others {
		x := begin(t, 1, 20, 9)
		checkArrive(t, x, 0, written(base), 0)
		checkArrive(t, x, 0, written(other), 1)
		checkHeld(t, x, 0, 2, 2, 8)
		first := other
		first.Off, first.Sport, first.Dport = 0, 80, 443
		checkArrive(t, x, 0, written(first), 2)
		checkTake(t, x, to(9, 2, 1)...)
		first.Sport, first.Dport = 81, 444
		checkArrive(t, x, 0, written(first), 3)
		checkTake(t, x, refused(3, api.Overlap)...)
		checkHeld(t, x, 0, 2, 1, 4)
	}
}

// TestP10Replicas: what a replica has room for does not hang on the others.
func TestP10Replicas(t *testing.T) {
	x := begin(t, 2, 20, 9)
	own := [2][]uint16{owned(0, 2, 4), owned(1, 2, 4)}
	seq := 0
	for i, size := range []int{32, 8, 8} {
		for replica := range 2 {
			checkPart(t, x, replica, part{own[replica][i], 4, 4 + size, true}, seq, nil)
			seq++
		}
	}
	checkHeld(t, x, 0, 3, 3, 48)
	checkHeld(t, x, 1, 3, 3, 48)
	checkPart(t, x, 0, part{own[0][3], 0, 4, true}, 6, refused(6, api.Full))
	checkPart(t, x, 0, part{own[0][1], 0, 4, true}, 7, to(9, 7, 2))
	checkPart(t, x, 0, part{own[0][1], 12, 13, false}, 8, to(9, 8))
	checkHeld(t, x, 0, 2, 2, 40)
	checkHeld(t, x, 1, 3, 3, 48)
	checkPart(t, x, 1, part{own[1][3], 0, 4, true}, 9, refused(9, api.Full))
	checkPart(t, x, 1, part{own[1][2], 16, 20, true}, 10, refused(10, api.Full))
	checkPart(t, x, 0, part{own[0][2], 16, 20, true}, 11, nil)
	checkPart(t, x, 0, part{own[0][3], 8, 12, true}, 12, nil)
	checkHeld(t, x, 0, 3, 4, 48)
}
