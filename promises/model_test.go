package promises

import (
	"slices"
	"testing"

	"ferry/api"
	"ferry/ferry"
)

// model: a cluster by the words of P8 to P11, byte by byte.
type model struct {
	replicas int
	life     int
	ticks    int
	backends []uint8
	arrivals int
	events   []api.Event
	ways     []modelWay
	entries  [][]*modelEntry // of each replica
}

type modelWay struct {
	api.Flight
	p api.Packet
}

type modelEntry struct {
	datagram [4]int
	began    int          // after so many ticks
	has      map[int]bool // bytes
	end      int          // -1: not known
	backend  int          // -1: not known
	held     []modelHeld
}

type modelHeld struct{ seq, bytes int }

func newModel(replicas, life int) *model {
	return &model{replicas: replicas, life: life, entries: make([][]*modelEntry, replicas)}
}

func (m *model) tell(seq int, fate api.Fate, where int) {
	m.events = append(m.events, api.Event{Seq: seq, Fate: fate, Where: uint8(where)})
}

func (m *model) choose(p api.Packet) int { return int(tableOf(m.backends)[flowSlot(p)]) }

func (m *model) arrive(replica int, b []byte) {
	seq := m.arrivals
	m.arrivals++
	if !isPiece(b) {
		fate, where := fateOf(b, m.backends)
		m.tell(seq, fate, int(where))
		return
	}
	p, _ := answer(b)
	way := modelWay{api.Flight{Seq: seq, From: replica, To: ownerOf(p, m.replicas)}, p}
	if way.To == replica {
		m.come(way)
	} else {
		m.ways = append(m.ways, way)
	}
}

func (m *model) leave(k int) modelWay {
	way := m.ways[k]
	m.ways = slices.Delete(m.ways, k, k+1)
	return way
}

func (m *model) flying() []api.Flight {
	var l []api.Flight
	for _, way := range m.ways {
		l = append(l, way.Flight)
	}
	return l
}

func (m *model) held(replica int) api.Load {
	l := api.Load{Entries: len(m.entries[replica])}
	for _, v := range m.entries[replica] {
		for _, h := range v.held {
			l.Pieces, l.Bytes = l.Pieces+1, l.Bytes+h.bytes
		}
	}
	return l
}

func (m *model) entryOf(way modelWay) *modelEntry {
	for _, v := range m.entries[way.To] {
		if v.datagram == datagramOf(way.p) {
			return v
		}
	}
	return nil
}

func datagramOf(p api.Packet) [4]int { return [4]int{int(p.Src), int(p.Dst), int(p.Proto), int(p.Id)} }

// come: P10, the four cases in their order.
func (m *model) come(way modelWay) {
	v := m.entryOf(way)
	switch {
	case way.p.Off == 0 && len(m.backends) == 0:
		m.tell(way.Seq, api.NoBackend, 0)
	case v == nil && len(m.entries[way.To]) == 3:
		m.tell(way.Seq, api.Full, 0)
	case v != nil && v.overlaps(way.p):
		m.tell(way.Seq, api.Overlap, 0)
	case way.p.Off > 0 && (v == nil || v.backend < 0) && m.held(way.To).Bytes+len(way.p.Data) > 48:
		m.tell(way.Seq, api.Full, 0)
	default:
		if v == nil {
			v = &modelEntry{datagram: datagramOf(way.p), began: m.ticks, has: map[int]bool{}, end: -1, backend: -1}
			m.entries[way.To] = append(m.entries[way.To], v)
		}
		m.accept(v, way)
	}
}

func (v *modelEntry) overlaps(p api.Packet) bool {
	a := 4 * int(p.Off)
	b := a + len(p.Data)
	for i := range 100 {
		if v.has[i] && (i >= a && i < b || !p.More && i >= b) {
			return true
		}
	}
	return v.end >= 0 && (b > v.end || !p.More)
}

func (m *model) accept(v *modelEntry, way modelWay) {
	a := 4 * int(way.p.Off)
	b := a + len(way.p.Data)
	for i := a; i < b; i++ {
		v.has[i] = true
	}
	if !way.p.More {
		v.end = b
	}
	if way.p.Off == 0 {
		v.backend = m.choose(way.p)
		m.tell(way.Seq, api.Delivered, v.backend)
		for _, h := range v.held {
			m.tell(h.seq, api.Delivered, v.backend)
		}
		v.held = nil
	} else if v.backend >= 0 {
		m.tell(way.Seq, api.Delivered, v.backend)
	} else {
		v.held = append(v.held, modelHeld{way.Seq, b - a})
	}
	for i := range v.end {
		if !v.has[i] {
			return
		}
	}
	if v.end >= 0 {
		m.entries[way.To] = slices.DeleteFunc(m.entries[way.To], func(w *modelEntry) bool { return w == v })
	}
}

// tick: P11.
func (m *model) tick() {
	m.ticks++
	for replica, l := range m.entries {
		var young []*modelEntry
		for _, v := range l {
			if m.ticks < v.began+m.life {
				young = append(young, v)
				continue
			}
			for _, h := range v.held {
				m.tell(h.seq, api.Timeout, 0)
			}
		}
		m.entries[replica] = young
	}
}

// check: the cluster tells of itself what the model tells.
func (m *model) check(t *testing.T, x *ferry.Cluster) {
	t.Helper()
	checkFlying(t, x, m.flying()...)
	for replica := range m.replicas {
		l := m.held(replica)
		checkHeld(t, x, replica, l.Entries, l.Pieces, l.Bytes)
	}
}

// take: all events are as the model's.
func (m *model) take(t *testing.T, x *ferry.Cluster) {
	t.Helper()
	checkTake(t, x, m.events...)
	m.events = nil
}
