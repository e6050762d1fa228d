// Package ferry: replicas that spread packets over backends: see DOC.md.
package ferry

import (
	"ferry/api"
	"ferry/choice"
	"ferry/packet"
	"ferry/pieces"
)

// Pack writes a packet as bytes (P3).
func Pack(p api.Packet) ([]byte, api.Errno) { return packet.Pack(p) }

// Unpack reads a packet (P4).
func Unpack(b []byte) (api.Packet, api.Errno) { return packet.Unpack(b) }

// Hash is a number out of bytes (P5).
func Hash(b []byte) uint32 { return choice.Hash(b) }

// Table is the table of choices of some backends (P6).
func Table(backends []uint8) ([]uint8, api.Errno) { return choice.Table(backends) }

// Cluster is some replicas.
type Cluster struct {
	stores   []pieces.Store // one for each replica
	life     int            // of an entry, in ticks
	table    []uint8        // empty, as long as there are no backends
	arrivals int
	events   []api.Event // not yet taken
	flights  []flight    // in the order in which they were sent
}

// flight is a piece between the replica that it arrived at and its owner.
type flight struct {
	way   api.Flight
	piece pieces.Piece
}

// New makes a cluster (P7).
func New(replicas int, life int) (*Cluster, api.Errno) {
	if replicas < 1 || replicas > api.MaxReplicas || life < 1 || life > api.MaxLife {
		return nil, api.ErrArg
	}
	return &Cluster{stores: make([]pieces.Store, replicas), life: life}, api.OK
}

// Backends sets the backends (P7).
func (x *Cluster) Backends(list []uint8) api.Errno {
	// ErrNone is no error here: the table that comes with it has no slots.
	table, e := choice.Table(list)
	if e == api.ErrArg {
		return e
	}
	x.table = table
	return api.OK
}

// Choose tells the backend of a packet's flow (P7).
func (x *Cluster) Choose(p api.Packet) (uint8, api.Errno) {
	slot := int(choice.Flow(p) % api.Slots)
	if slot >= len(x.table) {
		return 0, api.ErrNone
	}
	return x.table[slot], api.OK
}

// Owner tells the replica that keeps the pieces of a packet's datagram (P7).
func (x *Cluster) Owner(p api.Packet) int {
	replicas := uint32(len(x.stores))
	if replicas < 1 { // New gives no such cluster; there would be nothing to divide by
		return 0
	}
	return int(choice.Datagram(p) % replicas)
}

// Arrive brings bytes to a replica, and tells the arrival's number (P8).
func (x *Cluster) Arrive(replica int, b []byte) (int, api.Errno) {
	if replica < 0 || replica >= len(x.stores) {
		return 0, api.ErrArg
	}
	seq := x.arrivals
	x.arrivals++
	p, e := packet.Unpack(b)
	if e != api.OK {
		x.tell(seq, api.Malformed, 0)
	} else if packet.Whole(p) {
		x.pass(seq, p)
	} else {
		x.send(seq, replica, p)
	}
	return seq, api.OK
}

// pass sends a whole packet on: its flow is known, so that it need not go by its owner.
func (x *Cluster) pass(seq int, p api.Packet) {
	backend, e := x.Choose(p)
	if e != api.OK {
		x.tell(seq, api.NoBackend, 0)
		return
	}
	x.tell(seq, api.Delivered, backend)
}

// send brings a piece to its owner at once, if it is there already, else on its way.
func (x *Cluster) send(seq int, replica int, p api.Packet) {
	owner := x.Owner(p)
	f := flight{way: api.Flight{Seq: seq, From: replica, To: owner}, piece: pieces.Of(p)}
	if owner == replica {
		x.come(f)
		return
	}
	x.flights = append(x.flights, f)
}

// come lets a piece come to its owner. The backend is chosen only now: it may be another than when the piece arrived.
func (x *Cluster) come(f flight) {
	owner := f.way.To
	if owner < 0 || owner >= len(x.stores) { // no piece has such an owner
		return
	}
	backend, e := x.Choose(f.piece.Head)
	events := x.stores[owner].Come(f.way.Seq, f.piece, backend, e)
	x.events = append(x.events, events...)
}

func (x *Cluster) tell(seq int, fate api.Fate, where uint8) {
	x.events = append(x.events, api.Event{Seq: seq, Fate: fate, Where: where})
}

// Take tells what has become of arrivals since the last Take (P8).
func (x *Cluster) Take() []api.Event {
	// The list goes over to the caller: the cluster begins a new one, not the same from its start.
	taken := x.events
	x.events = nil
	return taken
}

// Flying tells what is on its way from replica to replica (P9).
func (x *Cluster) Flying() []api.Flight {
	var ways []api.Flight
	for _, f := range x.flights {
		ways = append(ways, f.way)
	}
	return ways
}

// Deliver lets one of these come in (P9).
func (x *Cluster) Deliver(k int) api.Errno {
	f, e := x.land(k)
	if e != api.OK {
		return e
	}
	x.come(f)
	return api.OK
}

// Lose lets one of these be lost (P9).
func (x *Cluster) Lose(k int) api.Errno {
	f, e := x.land(k)
	if e != api.OK {
		return e
	}
	x.tell(f.way.Seq, api.Lost, 0)
	return api.OK
}

// land takes a piece off its way; the others stay in their order.
func (x *Cluster) land(k int) (flight, api.Errno) {
	if k < 0 || k >= len(x.flights) {
		return flight{}, api.ErrArg
	}
	f := x.flights[k]
	last := len(x.flights) - 1
	for i := k; i < last; i++ {
		x.flights[i] = x.flights[i+1]
	}
	x.flights = x.flights[:last]
	return f, api.OK
}

// Held tells what a replica keeps (P10).
func (x *Cluster) Held(replica int) (api.Load, api.Errno) {
	if replica < 0 || replica >= len(x.stores) {
		return api.Load{}, api.ErrArg
	}
	return x.stores[replica].Load(), api.OK
}

// Tick lets time go by (P11).
func (x *Cluster) Tick() {
	for i := range x.stores {
		events := x.stores[i].Tick(x.life)
		x.events = append(x.events, events...)
	}
}
