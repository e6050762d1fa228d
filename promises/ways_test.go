package promises

import (
	"slices"
	"testing"

	"ferry/api"
	"ferry/ferry"
)

func checkFlying(t *testing.T, x *ferry.Cluster, want ...api.Flight) {
	t.Helper()
	l := x.Flying()
	if !slices.Equal(l, want) {
		t.Errorf("P9: Flying() = %v, want %v", l, want)
	}
}

func checkDeliver(t *testing.T, x *ferry.Cluster, k int, want api.Errno) {
	t.Helper()
	e := x.Deliver(k)
	if e != want {
		t.Errorf("P9: Deliver(%d) = %d, want %d", k, e, want)
	}
}

func checkLose(t *testing.T, x *ferry.Cluster, k int, want api.Errno) {
	t.Helper()
	e := x.Lose(k)
	if e != want {
		t.Errorf("P9: Lose(%d) = %d, want %d", k, e, want)
	}
}

// owned: Ids of datagrams whose owner is that one, of so many replicas.
func owned(owner, replicas, n int) []uint16 {
	var l []uint16
	for id := uint16(0); len(l) < n; id++ {
		if ownerOf(part{id: id}.packet(), replicas) == owner {
			l = append(l, id)
		}
	}
	return l
}

// TestP8Owner: a piece of each kind, at each replica: at its owner it comes in at once, elsewhere it goes on its way.
func TestP8Owner(t *testing.T) {
	for replicas := 1; replicas <= 5; replicas++ {
		for replica := range replicas {
			for id := range uint16(20) {
				owner := ownerOf(part{id: id}.packet(), replicas)
				for _, c := range []part{{id, 0, 8, true}, {id, 8, 12, true}, {id, 8, 9, false}} {
					checkSent(t, begin(t, replicas, 20, 9), replica, owner, c)
				}
			}
		}
	}
}

// checkSent: a new cluster's one arrival is at its owner, or on its way and nowhere else.
func checkSent(t *testing.T, x *ferry.Cluster, replica, owner int, c part) {
	t.Helper()
	if replica != owner {
		checkPart(t, x, replica, c, 0, nil)
		checkFlying(t, x, api.Flight{Seq: 0, From: replica, To: owner})
		checkHeld(t, x, replica, 0, 0, 0)
		checkHeld(t, x, owner, 0, 0, 0)
		checkDeliver(t, x, 0, api.OK)
	} else {
		checkArrive(t, x, replica, c.bytes(), 0)
	}
	checkFlying(t, x)
	if c.from == 0 {
		checkTake(t, x, to(9, 0)...)
		checkHeld(t, x, owner, 1, 0, 0)
	} else {
		checkTake(t, x)
		checkHeld(t, x, owner, 1, 1, c.to-c.from)
	}
}

// TestP9Flying: in the order in which they were sent, whatever came in between; what is malformed, whole or at its owner is not there.
func TestP9Flying(t *testing.T) {
	to0, to1, to2 := owned(0, 3, 2), owned(1, 3, 2), owned(2, 3, 2)
	x := begin(t, 3, 20, 9)
	checkFlying(t, x)
	checkArrive(t, x, 2, part{to1[0], 8, 12, true}.bytes(), 0)
	checkArrive(t, x, 1, part{to1[0], 0, 8, true}.bytes(), 1)
	checkArrive(t, x, 0, nil, 2)
	checkArrive(t, x, 0, part{to2[0], 0, 4, true}.bytes(), 3)
	checkArrive(t, x, 0, part{to1[0], 0, 4, false}.bytes(), 4)
	checkArrive(t, x, 2, part{to0[0], 4, 5, false}.bytes(), 5)
	checkArrive(t, x, 2, part{to0[0], 4, 5, false}.bytes(), 6)
	l := []api.Flight{{Seq: 0, From: 2, To: 1}, {Seq: 3, From: 0, To: 2}, {Seq: 5, From: 2, To: 0}, {Seq: 6, From: 2, To: 0}}
	checkFlying(t, x, l...)
	checkFlying(t, x, l...)
	checkTake(t, x, to(9, 1)[0], api.Event{Seq: 2, Fate: api.Malformed}, to(9, 4)[0])
	checkDeliver(t, x, 1, api.OK)
	checkArrive(t, x, 1, part{to2[1], 4, 5, false}.bytes(), 7)
	checkFlying(t, x, l[0], l[2], l[3], api.Flight{Seq: 7, From: 1, To: 2})
	checkLose(t, x, 2, api.OK)
	checkFlying(t, x, l[0], l[2], api.Flight{Seq: 7, From: 1, To: 2})
	checkTake(t, x, to(9, 3)[0], api.Event{Seq: 6, Fate: api.Lost})
}

// TestP9Each: of four any is delivered or lost, and then any of those that are left, down to none.
func TestP9Each(t *testing.T) {
	id := owned(1, 2, 1)[0]
	for _, order := range orders(4) {
		for lost := range 16 {
			x := begin(t, 2, 20, 9)
			var left []api.Flight
			for seq := range 4 {
				checkPart(t, x, 0, part{id, 4*seq + 4, 4*seq + 8, true}, seq, nil)
				left = append(left, api.Flight{Seq: seq, From: 0, To: 1})
			}
			held := 0
			for _, seq := range order {
				k := slices.Index(left, api.Flight{Seq: seq, From: 0, To: 1})
				left = slices.Delete(left, k, k+1)
				if lost>>seq&1 == 1 {
					checkLose(t, x, k, api.OK)
					checkTake(t, x, refused(seq, api.Lost)...)
				} else {
					checkDeliver(t, x, k, api.OK)
					checkTake(t, x)
					held++
				}
				checkFlying(t, x, left...)
				checkHeld(t, x, 1, min(held, 1), held, 4*held)
			}
		}
	}
}

// TestP9Lose: what is lost never came: the owner is as it was, and the same piece may come later.
func TestP9Lose(t *testing.T) {
	id := owned(0, 2, 1)[0]
	x := begin(t, 2, 20, 9)
	for seq, c := range []part{{id, 4, 8, false}, {id, 0, 4, true}} {
		checkPart(t, x, 1, c, seq, nil)
		checkLose(t, x, 0, api.OK)
		checkTake(t, x, refused(seq, api.Lost)...)
		checkHeld(t, x, 0, 0, 0, 0)
		checkHeld(t, x, 1, 0, 0, 0)
	}
	checkPart(t, x, 0, part{id, 4, 8, false}, 2, nil)
	checkPart(t, x, 1, part{id, 0, 4, true}, 3, nil)
	checkDeliver(t, x, 0, api.OK)
	checkTake(t, x, to(9, 3, 2)...)
	checkHeld(t, x, 0, 0, 0, 0)
}

// TestP9Overtaken: it is the order in which pieces come to their owner that counts, not that in which they arrived.
func TestP9Overtaken(t *testing.T) {
	id := owned(1, 2, 1)[0]
	x := begin(t, 2, 20, 9)
	for seq, c := range []part{{id, 0, 4, true}, {id, 4, 8, true}, {id, 8, 12, true}, {id, 8, 12, true}, {id, 12, 14, false}} {
		checkPart(t, x, 0, c, seq, nil)
	}
	for k, n := range []int{4, 3, 1} {
		checkDeliver(t, x, n, api.OK)
		checkHeld(t, x, 1, 1, k+1, []int{2, 6, 10}[k])
	}
	checkDeliver(t, x, 1, api.OK)
	checkTake(t, x, refused(2, api.Overlap)...)
	checkDeliver(t, x, 0, api.OK)
	checkTake(t, x, to(9, 0, 4, 3, 1)...)
	checkHeld(t, x, 1, 0, 0, 0)
	checkFlying(t, x)
}

// TestP9Backends: a first piece goes to a backend of those that there are when it comes to its owner.
func TestP9Backends(t *testing.T) {
	l := owned(1, 2, 3)
	x := begin(t, 2, 20, 5)
	for seq, id := range l {
		checkPart(t, x, 0, part{id, 0, 4, true}, seq, nil)
	}
	setBackends(t, x, nil, api.OK)
	checkDeliver(t, x, 1, api.OK)
	checkTake(t, x, refused(1, api.NoBackend)...)
	setBackends(t, x, []uint8{6}, api.OK)
	checkDeliver(t, x, 0, api.OK)
	setBackends(t, x, []uint8{7}, api.OK)
	checkDeliver(t, x, 0, api.OK)
	checkTake(t, x, to(6, 0)[0], to(7, 2)[0])
	checkHeld(t, x, 1, 2, 0, 0)
}

// TestP9Full: what is on its way takes no room; what finds none when it comes is Full, and on its way no longer.
func TestP9Full(t *testing.T) {
	l := owned(1, 2, 4)
	x := begin(t, 2, 20, 9)
	for seq, id := range l {
		checkPart(t, x, 0, part{id, 4, 20, true}, seq, nil)
	}
	checkPart(t, x, 0, part{l[0], 20, 21, false}, 4, nil)
	checkHeld(t, x, 1, 0, 0, 0)
	for n := range 3 {
		checkDeliver(t, x, 0, api.OK)
		checkHeld(t, x, 1, n+1, n+1, 16*n+16)
	}
	checkTake(t, x)
	checkDeliver(t, x, 0, api.OK)
	checkTake(t, x, refused(3, api.Full)...)
	checkDeliver(t, x, 0, api.OK)
	checkTake(t, x, refused(4, api.Full)...)
	checkFlying(t, x)
	checkHeld(t, x, 1, 3, 3, 48)
}

// TestP9Many: a hundred on their way, and all of them there.
func TestP9Many(t *testing.T) {
	id := owned(1, 2, 1)[0]
	x := begin(t, 2, 20, 9)
	var left []api.Flight
	for seq := range 100 {
		checkPart(t, x, 0, part{id, 4, 5, false}, seq, nil)
		left = append(left, api.Flight{Seq: seq, From: 0, To: 1})
	}
	checkFlying(t, x, left...)
	for seq := 99; seq >= 0; seq-- {
		checkDeliver(t, x, seq, api.OK)
		checkFlying(t, x, left[:seq]...)
	}
	var want []api.Event
	for seq := 98; seq >= 0; seq-- {
		want = append(want, api.Event{Seq: seq, Fate: api.Overlap})
	}
	checkTake(t, x, want...)
	checkHeld(t, x, 1, 1, 1, 1)
}
