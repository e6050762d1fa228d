// Package ferry: replicas that spread packets over backends: see DOC.md.
package ferry

import (
	"ferry/api"
	"ferry/choice"
	"ferry/packet"
)

// Pack writes a packet as bytes (P3).
func Pack(p api.Packet) ([]byte, api.Errno) { return packet.Pack(p) }

// Unpack reads a packet (P4).
func Unpack(b []byte) (api.Packet, api.Errno) { return packet.Unpack(b) }

// Hash is a number out of bytes (P5).
func Hash(b []byte) uint32 { return choice.Hash(b) }

// Table is the table of choices of some backends (P6).
func Table(backends []uint8) ([]uint8, api.Errno) { return nil, api.OK }

// Cluster is some replicas.
type Cluster struct{}

// New makes a cluster (P7).
func New(replicas int, life int) (*Cluster, api.Errno) { return nil, api.OK }

// Backends sets the backends (P7).
func (x *Cluster) Backends(list []uint8) api.Errno { return api.OK }

// Choose tells the backend of a packet's flow (P7).
func (x *Cluster) Choose(p api.Packet) (uint8, api.Errno) { return 0, api.OK }

// Owner tells the replica that keeps the pieces of a packet's datagram (P7).
func (x *Cluster) Owner(p api.Packet) int { return 0 }

// Arrive brings bytes to a replica, and tells the arrival's number (P8).
func (x *Cluster) Arrive(replica int, b []byte) (int, api.Errno) { return 0, api.OK }

// Take tells what has become of arrivals since the last Take (P8).
func (x *Cluster) Take() []api.Event { return nil }

// Flying tells what is on its way from replica to replica (P9).
func (x *Cluster) Flying() []api.Flight { return nil }

// Deliver lets one of these come in (P9).
func (x *Cluster) Deliver(k int) api.Errno { return api.OK }

// Lose lets one of these be lost (P9).
func (x *Cluster) Lose(k int) api.Errno { return api.OK }

// Held tells what a replica keeps (P10).
func (x *Cluster) Held(replica int) (api.Load, api.Errno) { return api.Load{}, api.OK }

// Tick lets time go by (P11).
func (x *Cluster) Tick() {}
