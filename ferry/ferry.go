// Package ferry: replicas that spread packets over backends: see DOC.md.
package ferry

import (
	"ferry/api"
	"ferry/choice"
	"ferry/packet"
)

// Pack writes a packet as bytes (P3).
func Pack(p api.Packet) ([]byte, api.Errno) { return packet.Pack(p) }

// Unpack reads a packet (P4).
func Unpack(b []byte) (api.Packet, api.Errno) { return packet.Unpack(b) }

// Hash is a number out of bytes (P5).
func Hash(b []byte) uint32 { return choice.Hash(b) }

// Table is the table of choices of some backends (P6).
func Table(backends []uint8) ([]uint8, api.Errno) { return choice.Table(backends) }

// Cluster is some replicas.
type Cluster struct {
	replicas int
	table    []uint8 // empty, as long as there are no backends
	arrivals int
	events   []api.Event // not yet taken
}

// New makes a cluster (P7).
func New(replicas int, life int) (*Cluster, api.Errno) {
	if replicas < 1 || replicas > api.MaxReplicas || life < 1 || life > api.MaxLife {
		return nil, api.ErrArg
	}
	return &Cluster{replicas: replicas}, api.OK
}

// Backends sets the backends (P7).
func (x *Cluster) Backends(list []uint8) api.Errno {
	// ErrNone is no error here: the table that comes with it has no slots.
	table, e := choice.Table(list)
	if e == api.ErrArg {
		return e
	}
	x.table = table
	return api.OK
}

// Choose tells the backend of a packet's flow (P7).
func (x *Cluster) Choose(p api.Packet) (uint8, api.Errno) {
	slot := int(choice.Flow(p) % api.Slots)
	if slot >= len(x.table) {
		return 0, api.ErrNone
	}
	return x.table[slot], api.OK
}

// Owner tells the replica that keeps the pieces of a packet's datagram (P7).
func (x *Cluster) Owner(p api.Packet) int {
	if x.replicas < 1 { // New gives no such cluster; there would be nothing to divide by
		return 0
	}
	return int(choice.Datagram(p) % uint32(x.replicas))
}

// Arrive brings bytes to a replica, and tells the arrival's number (P8).
func (x *Cluster) Arrive(replica int, b []byte) (int, api.Errno) {
	if replica < 0 || replica >= x.replicas {
		return 0, api.ErrArg
	}
	seq := x.arrivals
	x.arrivals++
	p, e := packet.Unpack(b)
	if e != api.OK {
		x.tell(seq, api.Malformed, 0)
	} else if packet.Whole(p) {
		x.pass(seq, p)
	}
	return seq, api.OK
}

// pass sends a whole packet on: its flow is known, so that it need not go by its owner.
func (x *Cluster) pass(seq int, p api.Packet) {
	backend, e := x.Choose(p)
	if e != api.OK {
		x.tell(seq, api.NoBackend, 0)
		return
	}
	x.tell(seq, api.Delivered, backend)
}

func (x *Cluster) tell(seq int, fate api.Fate, where uint8) {
	x.events = append(x.events, api.Event{Seq: seq, Fate: fate, Where: where})
}

// Take tells what has become of arrivals since the last Take (P8).
func (x *Cluster) Take() []api.Event {
	// The list goes over to the caller: the cluster begins a new one, not the same from its start.
	taken := x.events
	x.events = nil
	return taken
}

// Flying tells what is on its way from replica to replica (P9).
func (x *Cluster) Flying() []api.Flight { return nil }

// Deliver lets one of these come in (P9).
func (x *Cluster) Deliver(k int) api.Errno { return api.OK }

// Lose lets one of these be lost (P9).
func (x *Cluster) Lose(k int) api.Errno { return api.OK }

// Held tells what a replica keeps (P10).
func (x *Cluster) Held(replica int) (api.Load, api.Errno) { return api.Load{}, api.OK }

// Tick lets time go by (P11).
func (x *Cluster) Tick() {}
