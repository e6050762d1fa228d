package promises

import (
	"testing"

	"ferry/api"
	"ferry/ferry"
)

// bring: pieces that are all accepted come to the one replica; tells how many arrivals there were.
func bring(t *testing.T, x *ferry.Cluster, l []part) int {
	t.Helper()
	for i, c := range l {
		checkArrive(t, x, 0, c.bytes(), i)
	}
	for _, v := range x.Take() {
		if v.Fate != api.Delivered {
			t.Errorf("P10: of %v, which go together, there is %v", l, v)
		}
	}
	return len(l)
}

// TestP10Overlap: case 3, each of its parts, one byte or one piece this side of the edge and the other; with the backend known and without.
func TestP10Overlap(t *testing.T) {
	for _, c := range []struct {
		had  []part
		p    part
		good bool
	}{
		// some of the bytes
		{[]part{{1, 8, 16, true}}, part{1, 8, 16, true}, false},
		{[]part{{1, 8, 16, true}}, part{1, 12, 20, true}, false},
		{[]part{{1, 8, 16, true}}, part{1, 4, 12, true}, false},
		{[]part{{1, 8, 16, true}}, part{1, 4, 20, true}, false},
		{[]part{{1, 8, 20, true}}, part{1, 12, 16, true}, false},
		{[]part{{1, 8, 16, true}}, part{1, 12, 13, false}, false},
		{[]part{{1, 8, 16, true}}, part{1, 4, 8, true}, true},
		{[]part{{1, 8, 16, true}}, part{1, 16, 20, true}, true},
		{[]part{{1, 8, 16, true}}, part{1, 16, 17, false}, true},
		{[]part{{1, 8, 12, true}, {1, 16, 20, true}}, part{1, 12, 16, true}, true},
		{[]part{{1, 8, 12, true}, {1, 16, 20, true}}, part{1, 12, 20, true}, false},
		{[]part{{1, 16, 20, true}, {1, 8, 12, true}}, part{1, 12, 20, true}, false},
		// above the end
		{[]part{{1, 8, 12, false}}, part{1, 12, 16, true}, false},
		{[]part{{1, 8, 9, false}}, part{1, 12, 16, true}, false},
		{[]part{{1, 8, 12, false}}, part{1, 60, 92, true}, false},
		{[]part{{1, 8, 12, false}}, part{1, 4, 8, true}, true},
		{[]part{{1, 8, 9, false}}, part{1, 4, 8, true}, true},
		{[]part{{1, 60, 92, false}}, part{1, 56, 60, true}, true},
		// a second end
		{[]part{{1, 12, 16, false}}, part{1, 12, 16, false}, false},
		{[]part{{1, 12, 16, false}}, part{1, 4, 8, false}, false},
		{[]part{{1, 12, 16, false}}, part{1, 8, 12, false}, false},
		{[]part{{1, 12, 16, false}}, part{1, 16, 20, false}, false},
		// an end below another piece
		{[]part{{1, 12, 16, true}}, part{1, 8, 12, false}, false},
		{[]part{{1, 12, 16, true}}, part{1, 8, 11, false}, false},
		{[]part{{1, 12, 16, true}}, part{1, 4, 5, false}, false},
		{[]part{{1, 12, 16, true}, {1, 4, 8, true}}, part{1, 8, 12, false}, false},
		{[]part{{1, 4, 8, true}}, part{1, 8, 9, false}, true},
		{[]part{{1, 4, 8, true}}, part{1, 12, 16, false}, true},
	} {
		checkClash(t, begin(t, 1, 20, 9), c.had, c.p, c.good, false)
		had := append([]part{{1, 0, 4, true}}, c.had...)
		checkClash(t, begin(t, 1, 20, 9), had, c.p, c.good, true)
	}
}

// checkClash: after others that are accepted a piece is accepted, or else Overlap, and then all is as it was.
func checkClash(t *testing.T, x *ferry.Cluster, had []part, c part, good, known bool) {
	t.Helper()
	seq := bring(t, x, had)
	before, _ := x.Held(0)
	want := refused(seq, api.Overlap)
	if good {
		want = nil
	}
	if good && known {
		want = to(9, seq)
	}
	checkPart(t, x, 0, c, seq, want)
	after, _ := x.Held(0)
	if !good && after != before {
		t.Errorf("P10: %v after %v is Overlap, and Held was %v and is %v", c, had, before, after)
	}
}

// TestP10FirstOverlap: a first piece is no other: it is Overlap too, and then there is still no backend.
func TestP10FirstOverlap(t *testing.T) {
	x := begin(t, 1, 20, 9)
	checkPart(t, x, 0, part{1, 8, 12, true}, 0, nil)
	checkPart(t, x, 0, part{1, 0, 12, true}, 1, refused(1, api.Overlap))
	checkPart(t, x, 0, part{1, 0, 32, true}, 2, refused(2, api.Overlap))
	checkPart(t, x, 0, part{1, 12, 16, false}, 3, nil)
	checkHeld(t, x, 0, 1, 2, 8)
	checkPart(t, x, 0, part{1, 0, 4, true}, 4, to(9, 4, 0, 3))
	checkPart(t, x, 0, part{1, 0, 4, true}, 5, refused(5, api.Overlap))
	checkPart(t, x, 0, part{1, 0, 8, true}, 6, refused(6, api.Overlap))
	checkHeld(t, x, 0, 1, 0, 0)
	checkPart(t, x, 0, part{1, 4, 8, true}, 7, to(9, 7))
	checkHeld(t, x, 0, 0, 0, 0)
}

// TestP10Unchanged: a last piece that is refused ends nothing, and one that is refused has no bytes.
func TestP10Unchanged(t *testing.T) {
	x := begin(t, 1, 20, 9)
	checkPart(t, x, 0, part{1, 12, 16, true}, 0, nil)
	checkPart(t, x, 0, part{1, 8, 12, false}, 1, refused(1, api.Overlap))
	checkPart(t, x, 0, part{1, 8, 16, true}, 2, refused(2, api.Overlap))
	checkPart(t, x, 0, part{1, 8, 12, true}, 3, nil)
	checkPart(t, x, 0, part{1, 20, 24, true}, 4, nil) // above what the end would have been
	checkPart(t, x, 0, part{1, 16, 20, false}, 5, refused(5, api.Overlap))
	checkPart(t, x, 0, part{1, 24, 26, false}, 6, nil)
	checkPart(t, x, 0, part{1, 0, 8, true}, 7, to(9, 7, 0, 3, 4, 6))
	checkHeld(t, x, 0, 1, 0, 0)
	checkPart(t, x, 0, part{1, 16, 20, true}, 8, to(9, 8))
	checkHeld(t, x, 0, 0, 0, 0)
}

// TestP10Held: case 4, at its edge: 48 bytes are held back, not 49; in one entry or in all together.
func TestP10Held(t *testing.T) {
	x := begin(t, 1, 20, 9)
	checkPart(t, x, 0, part{1, 4, 36, true}, 0, nil)
	checkPart(t, x, 0, part{1, 36, 53, false}, 1, refused(1, api.Full))
	checkPart(t, x, 0, part{1, 36, 56, true}, 2, refused(2, api.Full))
	checkPart(t, x, 0, part{2, 4, 21, false}, 3, refused(3, api.Full))
	checkHeld(t, x, 0, 1, 1, 32) // no entry for what is refused
	checkPart(t, x, 0, part{2, 4, 19, false}, 4, nil)
	checkHeld(t, x, 0, 2, 2, 47)
	checkPart(t, x, 0, part{3, 4, 6, false}, 5, refused(5, api.Full))
	checkPart(t, x, 0, part{3, 4, 5, false}, 6, nil)
	checkHeld(t, x, 0, 3, 3, 48)
	checkPart(t, x, 0, part{1, 36, 37, false}, 7, refused(7, api.Full))
	checkPart(t, x, 0, part{2, 4, 19, false}, 8, refused(8, api.Overlap)) // that is told ahead of Full
	checkPart(t, x, 0, part{1, 40, 41, false}, 9, refused(9, api.Full))
	checkPart(t, x, 0, part{1, 36, 56, true}, 10, refused(10, api.Full)) // the end of 9 is not known
	checkHeld(t, x, 0, 3, 3, 48)
	checkPart(t, x, 0, part{1, 0, 4, true}, 11, to(9, 11, 0))
	checkHeld(t, x, 0, 3, 2, 16)
	checkPart(t, x, 0, part{1, 36, 68, true}, 12, to(9, 12)) // what is not held back is not counted
	checkHeld(t, x, 0, 3, 2, 16)
	checkPart(t, x, 0, part{2, 0, 4, true}, 13, to(9, 13, 4))
	checkHeld(t, x, 0, 2, 1, 1)
	checkPart(t, x, 0, part{4, 12, 44, true}, 14, nil)
	checkPart(t, x, 0, part{4, 44, 59, false}, 15, nil)
	checkHeld(t, x, 0, 3, 3, 48)
}

// TestP10NotHeld: with 48 bytes held back there is still room for first pieces, and for later ones whose backend is known.
func TestP10NotHeld(t *testing.T) {
	x := begin(t, 1, 20, 9)
	checkPart(t, x, 0, part{1, 8, 40, true}, 0, nil)
	checkPart(t, x, 0, part{2, 32, 48, true}, 1, nil)
	checkPart(t, x, 0, part{3, 0, 32, true}, 2, to(9, 2))
	checkPart(t, x, 0, part{3, 32, 64, true}, 3, to(9, 3))
	checkPart(t, x, 0, part{2, 0, 32, true}, 4, to(9, 4, 1))
	checkHeld(t, x, 0, 3, 1, 32)
}

// TestP10Order: what was held back goes out in the order in which it came to the owner, not by its place nor by its size.
func TestP10Order(t *testing.T) {
	l := []part{{1, 20, 24, true}, {1, 4, 8, true}, {1, 24, 27, false}, {1, 16, 20, true}, {1, 8, 16, true}}
	x := begin(t, 1, 20, 9)
	bring(t, x, l)
	checkPart(t, x, 0, part{2, 4, 8, true}, 5, nil)
	checkHeld(t, x, 0, 2, 6, 27)
	checkPart(t, x, 0, part{1, 0, 4, true}, 6, to(9, 6, 0, 1, 2, 3, 4))
	checkHeld(t, x, 0, 1, 1, 4)
}

// TestP10Backend: the first piece's backend is that of its flow when it comes to the owner, and stays the entry's.
func TestP10Backend(t *testing.T) {
	first := part{1, 0, 4, true}
	list := []uint8{1, 2, 3, 4, 5, 6}
	where := tableOf(list)[flowSlot(first.packet())]
	x := begin(t, 1, 20, 77)
	checkPart(t, x, 0, part{1, 4, 8, true}, 0, nil)
	setBackends(t, x, list, api.OK)
	checkPart(t, x, 0, first, 1, to(where, 1, 0))
	setBackends(t, x, []uint8{78}, api.OK)
	checkPart(t, x, 0, part{1, 8, 12, true}, 2, to(where, 2))
	setBackends(t, x, nil, api.OK)
	checkPart(t, x, 0, part{1, 16, 20, false}, 3, to(where, 3))
	setBackends(t, x, []uint8{79}, api.OK)
	checkPart(t, x, 0, part{2, 0, 4, true}, 4, to(79, 4))
	checkPart(t, x, 0, part{1, 12, 16, true}, 5, to(where, 5))
	checkPart(t, x, 0, first, 6, to(79, 6)) // a new entry
}

// TestP10Ports: the backend is that of the flow, the ports with it.
func TestP10Ports(t *testing.T) {
	list := []uint8{60, 10, 50, 20, 40, 30}
	x := begin(t, 1, 20, list...)
	for slot, p := range flows() {
		later := p
		later.Off, later.Sport, later.Dport, later.Data = 2, 0, 0, some(3)
		p.More, p.Data = true, some(8)
		checkArrive(t, x, 0, written(later), 2*slot)
		checkArrive(t, x, 0, written(p), 2*slot+1)
		checkTake(t, x, to(tableOf(list)[slot], 2*slot+1, 2*slot)...)
	}
	checkHeld(t, x, 0, 0, 0, 0)
}
