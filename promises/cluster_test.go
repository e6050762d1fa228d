package promises

import (
	"slices"
	"testing"

	"ferry/api"
	"ferry/ferry"
)

// ints: the least and the greatest numbers there are, and some that a narrower number cuts to small ones.
func ints() []int {
	return []int{-1 << 63, -1<<63 + 1, -1 << 32, -256, -1, 1 << 8, 1<<8 + 1, 1<<16 + 1, 1<<32 + 1, 1<<63 - 1}
}

func begin(t *testing.T, replicas, life int, backends ...uint8) *ferry.Cluster {
	t.Helper()
	x, e := ferry.New(replicas, life)
	if x == nil || e != api.OK {
		t.Fatalf("P7: New(%d, %d): %d", replicas, life, e)
	}
	if len(backends) > 0 {
		setBackends(t, x, backends, api.OK)
	}
	return x
}

func setBackends(t *testing.T, x *ferry.Cluster, list []uint8, want api.Errno) {
	t.Helper()
	e := x.Backends(list)
	if e != want {
		t.Errorf("P7: Backends(%.40v) = %d, want %d", list, e, want)
	}
}

// flowSlot: P7, the slot of a packet's flow.
func flowSlot(p api.Packet) int {
	return hashOf(byte(p.Src>>8), byte(p.Src), byte(p.Dst>>8), byte(p.Dst), p.Proto, byte(p.Sport>>8), byte(p.Sport), byte(p.Dport>>8), byte(p.Dport)) % 31
}

// ownerOf: P7, of so many replicas.
func ownerOf(p api.Packet, replicas int) int {
	return hashOf(byte(p.Src>>8), byte(p.Src), byte(p.Dst>>8), byte(p.Dst), p.Proto, byte(p.Id>>8), byte(p.Id)) % replicas
}

// checkChoose: Choose answers by the table of these backends, or that there are none.
func checkChoose(t *testing.T, x *ferry.Cluster, p api.Packet, backends []uint8) {
	t.Helper()
	want, e := uint8(0), api.ErrNone
	if len(backends) > 0 {
		want, e = tableOf(backends)[flowSlot(p)], api.OK
	}
	b, f := x.Choose(p)
	if b != want || f != e {
		t.Errorf("P7: with the backends %v Choose(%v) = %d, %d, want %d, %d", backends, p, b, f, want, e)
	}
}

// flows: a packet of a flow in each slot.
func flows() []api.Packet {
	l := make([]api.Packet, 31)
	for sport := range 2000 {
		p := api.Packet{Src: 1, Dst: 2, Proto: 6, Id: 7, Sport: uint16(sport), Dport: 443}
		l[flowSlot(p)] = p
	}
	return l
}

// checkBackends: these are the backends, in every slot.
func checkBackends(t *testing.T, x *ferry.Cluster, backends []uint8) {
	t.Helper()
	for _, p := range flows() {
		checkChoose(t, x, p, backends)
	}
}

func checkArrive(t *testing.T, x *ferry.Cluster, replica int, b []byte, seq int) {
	t.Helper()
	n, e := x.Arrive(replica, b)
	if n != seq || e != api.OK {
		t.Errorf("P8: Arrive(%d, %.60v) = %d, %d, want %d, 0", replica, b, n, e, seq)
	}
}

func checkTake(t *testing.T, x *ferry.Cluster, want ...api.Event) {
	t.Helper()
	l := x.Take()
	if !slices.Equal(l, want) {
		t.Errorf("P8: Take() = %v, want %v", l, want)
	}
}
