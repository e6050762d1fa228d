package promises

import (
	"testing"

	"ferry/api"
	"ferry/ferry"
)

// piece: of one of a few datagrams, so that pieces meet; mostly small and low, at times any there is.
func (s *source) piece(datagrams int) api.Packet {
	p := api.Packet{Src: 1, Dst: uint16(s.below(2)), Proto: 6, Id: uint16(s.below(datagrams)), Off: uint8(s.below(5)), More: s.below(4) > 0}
	size := 1 + s.below(3)
	if s.below(12) == 0 {
		p.Off, size = uint8(s.below(16)), 1+s.below(8)
	}
	p.Data = s.bytes(4 * size)
	if p.Off == 0 {
		p.Sport, p.Dport = uint16(s.below(4)), 443
	} else if !p.More {
		p.Data = p.Data[s.below(4):]
	}
	return p
}

// move: one call, of the cluster and of the model.
func (s *source) move(t *testing.T, x *ferry.Cluster, m *model, datagrams int) {
	t.Helper()
	n := len(m.ways)
	switch s.below(20) {
	case 0:
		list := s.backends(6)
		setBackends(t, x, list, api.OK)
		m.backends = list
	case 1:
		b := s.damaged()
		replica := s.below(m.replicas)
		checkArrive(t, x, replica, b, m.arrivals)
		m.arrive(replica, b)
	case 2:
		checkDeliver(t, x, n, api.ErrArg)
		checkLose(t, x, n, api.ErrArg)
	case 3:
		m.take(t, x)
	case 4:
		if n > 0 {
			k := s.below(n)
			checkLose(t, x, k, api.OK)
			m.tell(m.leave(k).Seq, api.Lost, 0)
		}
	case 5, 6, 7, 8, 9:
		if n > 0 {
			k := s.below(n)
			checkDeliver(t, x, k, api.OK)
			m.come(m.leave(k))
		}
	default:
		b := written(s.piece(datagrams))
		replica := s.below(m.replicas)
		checkArrive(t, x, replica, b, m.arrivals)
		m.arrive(replica, b)
	}
}

// moveOrTick: a call; one in so many is a tick, or none at 0.
func (s *source) moveOrTick(t *testing.T, x *ferry.Cluster, m *model, datagrams, oneIn int) {
	t.Helper()
	if oneIn == 0 || s.below(oneIn) > 0 {
		s.move(t, x, m, datagrams)
		return
	}
	x.Tick()
	m.tick()
}

// manyCalls: a cluster and a model, with calls in any order, against each other after each; tells of the fates.
func (s *source) manyCalls(t *testing.T, life, oneIn int) (fates [7]int) {
	t.Helper()
	replicas := 1 + s.below(5)
	x := begin(t, replicas, life)
	m := newModel(replicas, life)
	if s.below(8) > 0 {
		m.backends = []uint8{1, 2, 3}
		setBackends(t, x, m.backends, api.OK)
	}
	datagrams := 1 + s.below(8)
	for range 120 {
		s.moveOrTick(t, x, m, datagrams, oneIn)
		m.check(t, x)
		if t.Failed() {
			t.Fatalf("of %d replicas with the life %d, after %d arrivals and %d ticks", replicas, life, m.arrivals, m.ticks)
		}
	}
	for _, v := range m.events {
		fates[v.Fate]++
	}
	m.take(t, x)
	return fates
}

func add(all *[7]int, fates [7]int) {
	for i, n := range fates {
		all[i] += n
	}
}

// checkWild: each of these fates has come about, and often.
func checkWild(t *testing.T, fates [7]int, want ...api.Fate) {
	t.Helper()
	for _, fate := range want {
		if fates[fate] < 50 {
			t.Errorf("the calls drawn are too tame: only %d of the fate %d", fates[fate], fate)
		}
	}
}

// TestP10Many: any calls but ticks.
func TestP10Many(t *testing.T) {
	s := &source{10}
	var all [7]int
	for range 600 {
		add(&all, s.manyCalls(t, 1, 0))
	}
	checkWild(t, all, api.Delivered, api.Malformed, api.NoBackend, api.Overlap, api.Full, api.Lost)
}

// TestP11Many: any calls, with ticks among them, few or many.
func TestP11Many(t *testing.T) {
	s := &source{11}
	var all [7]int
	for round := range 800 {
		life := 1 + s.below(20)
		if round%2 == 0 {
			life = 1 + s.below(4)
		}
		add(&all, s.manyCalls(t, life, 2+s.below(10)))
	}
	checkWild(t, all, api.Delivered, api.Malformed, api.NoBackend, api.Overlap, api.Full, api.Lost, api.Timeout)
}
