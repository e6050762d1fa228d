package promises

import (
	"slices"
	"testing"

	"ferry/api"
	"ferry/ferry"
)

// late: what tells that arrivals were held back for too long.
func late(seqs ...int) []api.Event {
	var l []api.Event
	for _, seq := range seqs {
		l = append(l, api.Event{Seq: seq, Fate: api.Timeout})
	}
	return l
}

// checkTick: one tick goes by, and these are too late by that.
func checkTick(t *testing.T, x *ferry.Cluster, seqs ...int) {
	t.Helper()
	x.Tick()
	l := x.Take()
	if !slices.Equal(l, late(seqs...)) {
		t.Errorf("P11: after a Tick Take() = %v, want %v", l, late(seqs...))
	}
}

// checkTicks: so many ticks go by, and nothing is told.
func checkTicks(t *testing.T, x *ferry.Cluster, n int) {
	t.Helper()
	for range n {
		checkTick(t, x)
	}
}

func TestP11Example(t *testing.T) {
	x := begin(t, 1, 2)
	checkPart(t, x, 0, part{7, 0, 4, false}, 0, refused(0, api.NoBackend))
	checkPart(t, x, 0, part{7, 0, 8, true}, 1, refused(1, api.NoBackend))
	checkPart(t, x, 0, part{7, 8, 12, false}, 2, nil)
	checkTick(t, x)
	checkHeld(t, x, 0, 1, 1, 4)
	checkTick(t, x, 2)
	checkHeld(t, x, 0, 0, 0, 0)
	checkTicks(t, x, 5)
}

// TestP11Life: at each life, and however many ticks went by before, an entry is there till as many have gone by since it began.
func TestP11Life(t *testing.T) {
	for life := 1; life <= 20; life++ {
		x := begin(t, 1, life, 9)
		seq := 0
		for _, before := range []int{0, 1, life - 1, life, 300} {
			checkTicks(t, x, before)
			checkPart(t, x, 0, part{1, 4, 8, true}, seq, nil)
			checkPart(t, x, 0, part{2, 0, 4, true}, seq+1, to(9, seq+1))
			for range life - 1 {
				checkTick(t, x)
				checkHeld(t, x, 0, 2, 1, 4)
			}
			checkTick(t, x, seq) // the other entry, which holds nothing back, goes without a word
			checkHeld(t, x, 0, 0, 0, 0)
			seq += 2
		}
	}
}

// TestP11Began: the life is counted from where the entry began: not from a piece that came later, not from its last one, not from the first piece.
func TestP11Began(t *testing.T) {
	x := begin(t, 1, 4, 9)
	checkPart(t, x, 0, part{1, 4, 8, true}, 0, nil)
	checkPart(t, x, 0, part{2, 4, 8, true}, 1, nil)
	checkTick(t, x)
	checkPart(t, x, 0, part{1, 12, 16, false}, 2, nil)
	checkPart(t, x, 0, part{2, 0, 4, true}, 3, to(9, 3, 1))
	checkTick(t, x)
	checkPart(t, x, 0, part{1, 8, 12, true}, 4, nil)
	checkPart(t, x, 0, part{2, 8, 12, true}, 5, to(9, 5))
	checkTick(t, x)
	checkHeld(t, x, 0, 2, 3, 12)
	checkTick(t, x, 0, 2, 4)
	checkHeld(t, x, 0, 0, 0, 0)
}

// TestP11Refused: a piece that is refused begins no entry and makes none younger.
func TestP11Refused(t *testing.T) {
	x := begin(t, 1, 2)
	checkPart(t, x, 0, part{1, 4, 36, true}, 0, nil)
	checkPart(t, x, 0, part{2, 4, 8, true}, 1, nil)
	checkTick(t, x)
	checkPart(t, x, 0, part{1, 0, 4, true}, 2, refused(2, api.NoBackend))
	checkPart(t, x, 0, part{1, 4, 8, true}, 3, refused(3, api.Overlap))
	checkPart(t, x, 0, part{1, 36, 52, true}, 4, refused(4, api.Full))
	checkPart(t, x, 0, part{3, 4, 20, true}, 5, refused(5, api.Full))
	checkPart(t, x, 0, part{3, 4, 8, true}, 6, nil)
	checkPart(t, x, 0, part{4, 4, 8, true}, 7, refused(7, api.Full))
	checkTick(t, x, 0, 1)
	checkHeld(t, x, 0, 1, 1, 4)
	checkTick(t, x, 6)
}

// TestP11Each: entries that began at different ticks are gone at different ticks, though they are at one replica.
func TestP11Each(t *testing.T) {
	x := begin(t, 1, 5, 9)
	checkPart(t, x, 0, part{1, 4, 8, true}, 0, nil)
	checkTicks(t, x, 2)
	checkPart(t, x, 0, part{2, 4, 12, true}, 1, nil)
	checkTicks(t, x, 1)
	checkPart(t, x, 0, part{3, 4, 20, true}, 2, nil)
	checkHeld(t, x, 0, 3, 3, 28)
	checkTicks(t, x, 1)
	checkTick(t, x, 0)
	checkHeld(t, x, 0, 2, 2, 24)
	checkPart(t, x, 0, part{4, 4, 5, false}, 3, nil)
	checkTicks(t, x, 1)
	checkTick(t, x, 1)
	checkHeld(t, x, 0, 2, 2, 17)
	checkTick(t, x, 2)
	checkHeld(t, x, 0, 1, 1, 1)
	checkTicks(t, x, 1)
	checkTick(t, x, 3)
	checkHeld(t, x, 0, 0, 0, 0)
}

// TestP11Order: by the replica, then by the entry's age, then as they came; whatever the order of the arrivals.
func TestP11Order(t *testing.T) {
	var own [5][]uint16
	for replica := range own {
		own[replica] = owned(replica, 5, 3)
	}
	x := begin(t, 5, 1, 9)
	var of [5][3][]int
	seq := 0
	for _, entry := range []int{2, 0, 1, 0, 2} { // 2 is the oldest
		for replica := 4; replica >= 0; replica-- {
			from := 60 - 4*len(of[replica][entry])
			checkPart(t, x, replica, part{own[replica][entry], from, from + 4, true}, seq, nil)
			of[replica][entry] = append(of[replica][entry], seq)
			seq++
		}
	}
	var want []int
	for replica := range 5 {
		checkHeld(t, x, replica, 3, 5, 20)
		for _, entry := range []int{2, 0, 1} {
			want = append(want, of[replica][entry]...)
		}
	}
	checkTick(t, x, want...)
	for replica := range 5 {
		checkHeld(t, x, replica, 0, 0, 0)
	}
}

// TestP11Older: the older is the one that began earlier, also where entries between them are gone, and where a datagram began anew.
func TestP11Older(t *testing.T) {
	for gone := range uint16(3) {
		x := begin(t, 1, 2, 9)
		var want []int
		for id := range uint16(3) {
			checkPart(t, x, 0, part{id, 4, 8, false}, int(id), nil)
			if id != gone {
				want = append(want, int(id))
			}
		}
		checkPart(t, x, 0, part{gone, 0, 4, true}, 3, to(9, 3, int(gone)))
		checkHeld(t, x, 0, 2, 2, 8)
		checkPart(t, x, 0, part{gone, 8, 12, false}, 4, nil)
		checkTick(t, x)
		checkTick(t, x, append(want, 4)...)
	}
}

// TestP11Overtaken: pieces of an entry are told of as they came to the owner, not as they arrived nor by their place.
func TestP11Overtaken(t *testing.T) {
	id := owned(1, 2, 1)[0]
	for _, order := range orders(4) {
		x := begin(t, 2, 1, 9)
		for seq := range 4 {
			checkPart(t, x, 0, part{id, 4*seq + 4, 4*seq + 8, seq < 3}, seq, nil)
		}
		left := []int{0, 1, 2, 3}
		for _, seq := range order {
			k := slices.Index(left, seq)
			checkDeliver(t, x, k, api.OK)
			left = slices.Delete(left, k, k+1)
		}
		checkTick(t, x, order...)
	}
}

// TestP11Anew: what comes after begins a new entry, with nothing of the old: no bytes, no end, no backend, and a life of its own.
func TestP11Anew(t *testing.T) {
	x := begin(t, 1, 3, 9)
	checkPart(t, x, 0, part{1, 4, 8, false}, 0, nil)
	checkPart(t, x, 0, part{2, 0, 4, true}, 1, to(9, 1))
	checkTicks(t, x, 2)
	checkTick(t, x, 0)
	checkPart(t, x, 0, part{1, 8, 12, true}, 2, nil)   // above the old end
	checkPart(t, x, 0, part{2, 4, 8, false}, 3, nil)   // the old backend is not known
	checkPart(t, x, 0, part{1, 4, 8, true}, 4, nil)    // the old piece's bytes
	checkPart(t, x, 0, part{1, 12, 16, false}, 5, nil) // another end
	checkHeld(t, x, 0, 2, 4, 16)
	checkTicks(t, x, 2)
	checkHeld(t, x, 0, 2, 4, 16)
	setBackends(t, x, []uint8{8}, api.OK)
	checkPart(t, x, 0, part{2, 0, 4, true}, 6, to(8, 6, 3))
	checkTick(t, x, 2, 4, 5)
	checkPart(t, x, 0, part{1, 0, 4, true}, 7, to(8, 7)) // those before it are too late, not held back
	checkHeld(t, x, 0, 1, 0, 0)
}

// TestP11Room: what is gone leaves its room, of entries and of bytes; till then it takes it.
func TestP11Room(t *testing.T) {
	x := begin(t, 1, 2, 9)
	checkPart(t, x, 0, part{1, 4, 36, true}, 0, nil)
	checkPart(t, x, 0, part{2, 4, 20, true}, 1, nil)
	checkPart(t, x, 0, part{3, 0, 4, true}, 2, to(9, 2))
	checkTick(t, x)
	checkPart(t, x, 0, part{4, 0, 4, true}, 3, refused(3, api.Full))
	checkPart(t, x, 0, part{2, 20, 21, false}, 4, refused(4, api.Full))
	checkTick(t, x, 0, 1)
	checkPart(t, x, 0, part{4, 4, 36, true}, 5, nil)
	checkPart(t, x, 0, part{5, 4, 20, true}, 6, nil)
	checkPart(t, x, 0, part{6, 0, 4, true}, 7, to(9, 7))
	checkHeld(t, x, 0, 3, 2, 48)
	checkPart(t, x, 0, part{7, 0, 4, true}, 8, refused(8, api.Full))
	checkPart(t, x, 0, part{5, 20, 21, false}, 9, refused(9, api.Full))
}

// TestP11Delivered: what is delivered is not too late afterwards, whether its entry is gone by then or not.
func TestP11Delivered(t *testing.T) {
	x := begin(t, 1, 2, 9)
	checkPart(t, x, 0, part{1, 4, 8, false}, 0, nil)
	checkPart(t, x, 0, part{2, 4, 8, true}, 1, nil)
	checkTick(t, x)
	checkPart(t, x, 0, part{1, 0, 4, true}, 2, to(9, 2, 0))
	checkPart(t, x, 0, part{2, 0, 4, true}, 3, to(9, 3, 1))
	checkPart(t, x, 0, part{2, 8, 12, true}, 4, to(9, 4))
	checkHeld(t, x, 0, 1, 0, 0)
	checkTick(t, x)
	checkHeld(t, x, 0, 0, 0, 0)
	checkTicks(t, x, 3)
}

// TestP11Flying: what is on its way does not grow old, and begins an entry only when it comes to its owner.
func TestP11Flying(t *testing.T) {
	id := owned(1, 2, 1)[0]
	x := begin(t, 2, 2, 9)
	checkPart(t, x, 0, part{id, 4, 8, true}, 0, nil)
	checkPart(t, x, 0, part{id, 8, 12, true}, 1, nil)
	ways := []api.Flight{{Seq: 0, From: 0, To: 1}, {Seq: 1, From: 0, To: 1}}
	for range 50 {
		checkTick(t, x)
		checkFlying(t, x, ways...)
		checkHeld(t, x, 1, 0, 0, 0)
	}
	checkDeliver(t, x, 1, api.OK)
	checkTick(t, x)
	checkDeliver(t, x, 0, api.OK)
	checkHeld(t, x, 1, 1, 2, 8)
	checkTick(t, x, 1, 0)
	checkFlying(t, x)
}

// TestP11Events: what came about ahead of a tick is told ahead of it, and what came after is told after; nothing is told twice.
func TestP11Events(t *testing.T) {
	x := begin(t, 1, 1, 9)
	checkArrive(t, x, 0, part{1, 4, 8, true}.bytes(), 0)
	checkArrive(t, x, 0, part{1, 0, 4, false}.bytes(), 1)
	x.Tick()
	checkArrive(t, x, 0, nil, 2)
	checkArrive(t, x, 0, part{1, 4, 8, true}.bytes(), 3)
	checkArrive(t, x, 0, part{2, 4, 8, true}.bytes(), 4)
	x.Tick()
	x.Tick()
	checkArrive(t, x, 0, part{1, 4, 8, true}.bytes(), 5)
	checkArrive(t, x, 0, part{1, 0, 4, true}.bytes(), 6)
	checkTake(t, x, to(9, 1)[0], late(0)[0], refused(2, api.Malformed)[0], late(3)[0], late(4)[0], to(9, 6)[0], to(9, 5)[0])
	x.Tick()
	checkTake(t, x)
}

// TestP11Backends: whatever becomes of the backends, the time of an entry is the same; and by a tick the backends are.
func TestP11Backends(t *testing.T) {
	x := begin(t, 1, 3, 1, 2, 3)
	checkPart(t, x, 0, part{1, 4, 8, true}, 0, nil)
	checkTick(t, x)
	checkBackends(t, x, []uint8{1, 2, 3})
	setBackends(t, x, nil, api.OK)
	checkTick(t, x)
	checkBackends(t, x, nil)
	setBackends(t, x, []uint8{4, 5}, api.OK)
	checkTick(t, x, 0)
	checkBackends(t, x, []uint8{4, 5})
}
