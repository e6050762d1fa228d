package promises

import (
	"testing"

	"ferry/api"
	"ferry/ferry"
)

// busy: a cluster of two replicas with the backend 9, two pieces at the replica 1, and two on their way to it; nothing to take.
func busy(t *testing.T) (x *ferry.Cluster, id uint16) {
	t.Helper()
	x = begin(t, 2, 20, 9)
	id = owned(1, 2, 1)[0]
	checkPart(t, x, 1, part{id, 8, 12, true}, 0, nil)
	checkPart(t, x, 0, part{id, 0, 8, true}, 1, nil)
	checkPart(t, x, 1, part{id, 20, 21, false}, 2, nil)
	checkPart(t, x, 0, part{id, 12, 20, true}, 3, nil)
	return x, id
}

// checkBusy: it is as busy made it, and goes on as it would have.
func checkBusy(t *testing.T, x *ferry.Cluster, id uint16) {
	t.Helper()
	checkTake(t, x)
	checkFlying(t, x, api.Flight{Seq: 1, From: 0, To: 1}, api.Flight{Seq: 3, From: 0, To: 1})
	checkHeld(t, x, 0, 0, 0, 0)
	checkHeld(t, x, 1, 1, 2, 5)
	checkPart(t, x, 0, part{id, 0, 1, false}, 4, to(9, 4))
	checkDeliver(t, x, 1, api.OK)
	checkHeld(t, x, 1, 1, 3, 13)
	checkDeliver(t, x, 0, api.OK)
	checkTake(t, x, to(9, 1, 0, 2, 3)...)
	checkHeld(t, x, 1, 0, 0, 0)
	checkFlying(t, x)
}

// TestP1Ways: there is no k-th: ErrArg, and the cluster is as it was, with none on their way and with some.
func TestP1Ways(t *testing.T) {
	for _, k := range append(ints(), 0, 1, 2, 3, 4) {
		x := begin(t, 2, 20, 9)
		checkDeliver(t, x, k, api.ErrArg)
		checkLose(t, x, k, api.ErrArg)
		checkFlying(t, x)
		checkTake(t, x)
		if k == 0 || k == 1 {
			continue
		}
		y, id := busy(t)
		checkDeliver(t, y, k, api.ErrArg)
		checkLose(t, y, k, api.ErrArg)
		checkBusy(t, y, id)
	}
}

// TestP1Held: without such a replica there is an error and no load, though others have one; nothing changes by Held.
func TestP1Held(t *testing.T) {
	for replicas := 1; replicas <= 5; replicas++ {
		x := begin(t, replicas, 20, 9)
		id := owned(replicas-1, replicas, 1)[0]
		checkPart(t, x, replicas-1, part{id, 4, 8, true}, 0, nil)
		for _, replica := range append(ints(), replicas, replicas+1, 5, 6) {
			l, e := x.Held(replica)
			if l != (api.Load{}) || e != api.ErrArg {
				t.Errorf("P1, P10: of %d replicas: Held(%d) = %v, %d, want {0 0 0}, 1", replicas, replica, l, e)
			}
		}
		checkHeld(t, x, replicas-1, 1, 1, 4)
	}
	x, id := busy(t)
	for _, replica := range ints() {
		x.Held(replica)
	}
	checkBusy(t, x, id)
}

// TestP1Others: errors of the other calls leave what is on its way, and what is held back, as it was.
func TestP1Others(t *testing.T) {
	x, id := busy(t)
	setBackends(t, x, []uint8{3, 3}, api.ErrArg)
	for _, replica := range append(ints(), 2) {
		for _, c := range []part{{id, 0, 8, true}, {id, 12, 20, true}, {id, 0, 1, false}} {
			n, e := x.Arrive(replica, c.bytes())
			if n != 0 || e != api.ErrArg {
				t.Errorf("P1, P8: Arrive(%d) of %v = %d, %d, want 0, 1", replica, c, n, e)
			}
		}
	}
	checkBusy(t, x, id)
}

// TestP8Damaged: of a piece that is no packet any longer nothing comes to the owner, nor goes on its way.
func TestP8Damaged(t *testing.T) {
	x, id := busy(t)
	seq := 4
	for _, c := range []part{{id, 0, 8, true}, {id, 12, 20, true}} {
		good := c.bytes()
		for i := range good[:12] {
			for replica := range 2 {
				b := append([]byte(nil), good...)
				b[i] ^= 4
				checkArrive(t, x, replica, b, seq)
				checkTake(t, x, refused(seq, api.Malformed)...)
				seq++
			}
		}
	}
	checkFlying(t, x, api.Flight{Seq: 1, From: 0, To: 1}, api.Flight{Seq: 3, From: 0, To: 1})
	checkHeld(t, x, 0, 0, 0, 0)
	checkHeld(t, x, 1, 1, 2, 5)
}
