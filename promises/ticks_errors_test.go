package promises

import (
	"testing"

	"ferry/api"
	"ferry/ferry"
)

// fill: each replica has three entries with 48 bytes held back, and as many pieces are on their way to it, if there is another; tells what is held back, in the order of the replicas.
func fill(t *testing.T, x *ferry.Cluster, replicas int) (all []int) {
	t.Helper()
	seq := 0
	for replica := range replicas {
		for _, id := range owned(replica, replicas, 3) {
			for k := range 4 {
				checkPart(t, x, replica, part{id, 4*k + 4, 4*k + 8, true}, seq, nil)
				all = append(all, seq)
				seq++
			}
		}
		checkHeld(t, x, replica, 3, 12, 48)
	}
	for replica := range replicas {
		for _, id := range owned(replica, replicas, 3) {
			other := (replica + 1) % replicas
			if other != replica {
				checkPart(t, x, other, part{id, 20, 24, true}, seq, nil)
				seq++
			}
		}
	}
	return all
}

// TestP1Tick: it ends, and does not panic, at any number of replicas and any life: with nothing kept, and with all that can be kept.
func TestP1Tick(t *testing.T) {
	for replicas := 1; replicas <= 5; replicas++ {
		for life := 1; life <= 20; life++ {
			x := begin(t, replicas, life)
			checkTicks(t, x, 50)
			all := fill(t, x, replicas)
			ways := x.Flying()
			checkTicks(t, x, life-1)
			checkTick(t, x, all...)
			checkFlying(t, x, ways...)
			checkTicks(t, x, 50)
			for replica := range replicas {
				checkHeld(t, x, replica, 0, 0, 0)
			}
			for _, way := range ways {
				checkDeliver(t, x, 0, api.OK)
				checkTicks(t, x, life-1)
				checkTick(t, x, way.Seq)
			}
		}
	}
}

// TestP1LongTime: more ticks than a small number could count, with an entry now and then.
func TestP1LongTime(t *testing.T) {
	x := begin(t, 1, 20, 9)
	for seq, n := range []int{1<<8 - 20, 1<<16 - 20, 1 << 16, 1 << 17} {
		tick(x, n)
		checkTake(t, x)
		checkPart(t, x, 0, part{1, 4, 8, true}, seq, nil)
		checkTicks(t, x, 19)
		checkTick(t, x, seq)
	}
}

// TestP1Time: calls with an error let no time go by, and make no entry younger; nor do those that only tell.
func TestP1Time(t *testing.T) {
	x, id := busy(t)
	for range 19 {
		checkTick(t, x)
		for _, n := range append(ints(), 2) {
			x.Arrive(n, part{id, 12, 16, true}.bytes())
			checkDeliver(t, x, n, api.ErrArg)
			checkLose(t, x, n, api.ErrArg)
			x.Held(n)
		}
		setBackends(t, x, []uint8{3, 3}, api.ErrArg)
		checkFlying(t, x, api.Flight{Seq: 1, From: 0, To: 1}, api.Flight{Seq: 3, From: 0, To: 1})
		checkHeld(t, x, 1, 1, 2, 5)
		checkBackends(t, x, []uint8{9})
		x.Owner(api.Packet{})
	}
	checkTick(t, x, 0, 2)
	checkFlying(t, x, api.Flight{Seq: 1, From: 0, To: 1}, api.Flight{Seq: 3, From: 0, To: 1})
	checkHeld(t, x, 1, 0, 0, 0)
}

// TestP1NotYet: a tick that ends nothing changes nothing else.
func TestP1NotYet(t *testing.T) {
	x, id := busy(t)
	tick(x, 19)
	checkBusy(t, x, id)
	checkTicks(t, x, 20)
}
