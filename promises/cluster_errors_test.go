package promises

import (
	"testing"

	"ferry/api"
	"ferry/ferry"
)

// TestP1Arrive: without such a replica there is no arrival, whatever the bytes are: no number is used up, and no event comes.
func TestP1Arrive(t *testing.T) {
	whole := written(api.Packet{Src: 3})
	later := written(api.Packet{Src: 3, Off: 2, Data: some(4)})
	for replicas := 1; replicas <= 5; replicas++ {
		x := begin(t, replicas, 20, 9)
		checkArrive(t, x, 0, whole, 0)
		for _, replica := range append(ints(), replicas, replicas+1, 5, 6) {
			for _, b := range [][]byte{whole, later, nil, whole[:11], make([]byte, 1<<16)} {
				n, e := x.Arrive(replica, b)
				if n != 0 || e != api.ErrArg {
					t.Errorf("P1, P8: of %d replicas: Arrive(%d, %.20v) = %d, %d, want 0, 1", replicas, replica, b, n, e)
				}
			}
		}
		checkTake(t, x, api.Event{Seq: 0, Where: 9})
		checkArrive(t, x, replicas-1, whole, 1)
		checkTake(t, x, api.Event{Seq: 1, Where: 9})
	}
}

// TestP1Backends: after an error the backends are as they were, and so are numbers and events.
func TestP1Backends(t *testing.T) {
	whole := written(api.Packet{Src: 3})
	for _, list := range [][]uint8{nil, {9}, {1, 2, 3, 4, 5, 6}} {
		x := begin(t, 2, 20, list...)
		checkArrive(t, x, 0, whole, 0)
		setBackends(t, x, []uint8{7, 8, 7}, api.ErrArg)
		setBackends(t, x, []uint8{10, 11, 12, 13, 14, 15, 16}, api.ErrArg)
		checkBackends(t, x, list)
		checkArrive(t, x, 1, whole, 1)
		fate, where := fateOf(whole, list)
		checkTake(t, x, api.Event{Seq: 0, Fate: fate, Where: where}, api.Event{Seq: 1, Fate: fate, Where: where})
	}
}

// TestP1Choose: without backends nothing changes by Choose, and beside the error stands 0, though there were backends.
func TestP1Choose(t *testing.T) {
	x := begin(t, 1, 1, 200, 201)
	setBackends(t, x, nil, api.OK)
	for _, p := range packets() {
		checkChoose(t, x, p, nil)
	}
	checkTake(t, x)
	checkArrive(t, x, 0, written(api.Packet{}), 0)
	checkTake(t, x, api.Event{Seq: 0, Fate: api.NoBackend})
}

// TestP1AnyPacket: Choose and Owner end at all packets, those with great Data too.
func TestP1AnyPacket(t *testing.T) {
	x := begin(t, 3, 3, 0, 255)
	for _, n := range []int{0, 1, 33, 255, 1 << 16, 1 << 22} {
		for _, m := range []uint16{0, 1, 255, 256, 65535} {
			p := api.Packet{Src: m, Dst: m, Proto: uint8(m), Id: m, Off: uint8(m), More: m == 0, Sport: m, Dport: m, Data: make([]byte, n)}
			checkChoose(t, x, p, []uint8{0, 255})
			if x.Owner(p) != ownerOf(p, 3) {
				t.Errorf("P7: the owner of %.40v is %d, want %d", p, x.Owner(p), ownerOf(p, 3))
			}
		}
	}
}

// TestP1NewBesideError: no cluster stands beside an error, nor an error beside a cluster.
func TestP1NewBesideError(t *testing.T) {
	for _, n := range append(ints(), 0, 21) {
		x, e := ferry.New(n, 1)
		y, f := ferry.New(1, n)
		if x != nil || y != nil || e != api.ErrArg || f != api.ErrArg {
			t.Errorf("P1, P7: New(%d, 1) = %v, %d; New(1, %d) = %v, %d", n, x, e, n, y, f)
		}
	}
}
