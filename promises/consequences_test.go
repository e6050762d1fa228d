package promises

import (
	"testing"

	"ferry/api"
	"ferry/ferry"
)

// cut: a datagram of n bytes, above 4, in two pieces or more.
func (s *source) cut(id uint16, n int) []part {
	var l []part
	for from := 0; from < n; {
		to := min(from+4+4*s.below(5), n)
		if from == 0 && to == n {
			to = 4
		}
		l = append(l, part{id, from, to, to < n})
		from = to
	}
	return l
}

func shuffle[T any](s *source, l []T) {
	for i := len(l) - 1; i > 0; i-- {
		k := s.below(i + 1)
		l[i], l[k] = l[k], l[i]
	}
}

// land: what is on its way comes in, one after another in any order, till chance stops it.
func (s *source) land(t *testing.T, x *ferry.Cluster, goOn int) {
	t.Helper()
	for n := len(x.Flying()); n > 0 && s.below(100) < goOn; n-- {
		checkDeliver(t, x, s.below(n), api.OK)
	}
}

// tick: so many ticks go by.
func tick(x *ferry.Cluster, n int) {
	for range n {
		x.Tick()
	}
}

// TestP12Delivered: if nothing is lost, no tick goes by, the owner has room and no pieces overlap, all pieces go where the whole goes. Ticks ahead of the first piece do not count, nor do those after the last.
func TestP12Delivered(t *testing.T) {
	s := &source{12}
	for range 2000 {
		replicas := 1 + s.below(5)
		x := begin(t, replicas, 1+s.below(20), 4, 8, 15, 16, 23, 42)
		tick(x, s.below(30))
		var l []part
		n := 1 + s.below(3)
		for id := range n {
			l = append(l, s.cut(uint16(id), 5+s.below(48/n))...)
		}
		shuffle(s, l)
		for seq, c := range l {
			checkArrive(t, x, s.below(replicas), c.bytes(), seq)
			s.land(t, x, 50)
		}
		s.land(t, x, 100)
		where, _ := x.Choose(part{}.packet())
		told := x.Take()
		seen := map[int]bool{}
		for _, v := range told {
			if v.Fate != api.Delivered || v.Where != where || seen[v.Seq] {
				t.Fatalf("P12: the pieces %v: %v, want all Delivered once, to %d", l, told, where)
			}
			seen[v.Seq] = true
		}
		if len(told) != len(l) {
			t.Fatalf("P12: the pieces %v: %v, want all of them Delivered", l, told)
		}
		for replica := range replicas {
			checkHeld(t, x, replica, 0, 0, 0)
		}
		tick(x, 21)
		checkTake(t, x)
	}
}

// TestP12OneBackend: though pieces are lost, come twice, find no room or come too late, those that are Delivered go where the whole of their datagram goes.
func TestP12OneBackend(t *testing.T) {
	s := &source{13}
	var fates [7]int
	for range 1000 {
		replicas := 1 + s.below(5)
		x := begin(t, replicas, 1+s.below(20), 4, 8, 15, 16, 23, 42)
		var l []api.Packet
		for id := range uint16(8) {
			for _, c := range s.cut(id, 5+s.below(60)) {
				p := c.packet()
				p.Src = 10 + id
				l = append(l, p)
			}
		}
		shuffle(s, l)
		for seq, p := range append(l, l[:len(l)/2]...) {
			checkArrive(t, x, s.below(replicas), written(p), seq)
			s.land(t, x, 40)
			if n := len(x.Flying()); n > 0 && s.below(6) == 0 {
				checkLose(t, x, s.below(n), api.OK)
			}
			if s.below(8) == 0 {
				x.Tick()
			}
		}
		s.land(t, x, 100)
		for _, v := range x.Take() {
			fates[v.Fate]++
			p := l[v.Seq%len(l)]
			whole := api.Packet{Src: p.Src, Dst: p.Dst, Proto: p.Proto, Sport: 80, Dport: 443}
			where, _ := x.Choose(whole)
			if v.Fate == api.Delivered && v.Where != where {
				t.Fatalf("P12: %v is Delivered to %d, the whole goes to %d", p, v.Where, where)
			}
		}
	}
	checkWild(t, fates, api.Delivered, api.Overlap, api.Full, api.Lost, api.Timeout)
}

// TestP12Once: each arrival has at most one event, and what has none is on its way or held back, whatever time goes by.
func TestP12Once(t *testing.T) {
	s := &source{14}
	for range 100 {
		replicas := 1 + s.below(5)
		life := 1 + s.below(20)
		x := begin(t, replicas, life)
		m := newModel(replicas, life)
		told := map[int]bool{}
		for range 100 {
			s.moveOrTick(t, x, m, 6, 5)
			m.events = nil
			for _, v := range x.Take() {
				if told[v.Seq] || v.Seq < 0 || v.Seq >= m.arrivals {
					t.Fatalf("P12: of %d arrivals the event %v is told again, or has no arrival", m.arrivals, v)
				}
				told[v.Seq] = true
			}
			waiting := 0
			for _, way := range x.Flying() {
				if told[way.Seq] {
					t.Fatalf("P12: %v is on its way, and has an event", way)
				}
				waiting++
			}
			for replica := range replicas {
				l, _ := x.Held(replica)
				waiting += l.Pieces
			}
			if len(told)+waiting != m.arrivals {
				t.Fatalf("P12: of %d arrivals %d have an event, %d are on their way or held back", m.arrivals, len(told), waiting)
			}
		}
	}
}

// TestP12After: once the life of what is left of one packet has gone by, all of its pieces are told of, and another packet with the same Id goes where its own whole goes.
func TestP12After(t *testing.T) {
	s := &source{15}
	var fates [7]int
	for range 300 {
		replicas, life := 1+s.below(5), 1+s.below(20)
		x := begin(t, replicas, life, 4, 8, 15, 16, 23, 42)
		seq := 0
		for range 6 {
			whole := part{id: 7}.packet()
			whole.Sport = uint16(s.below(1000))
			where, _ := x.Choose(whole)
			l := s.cut(7, 5+s.below(60))
			shuffle(s, l)
			came := l[:1+s.below(len(l))]
			for i, c := range came {
				p := c.packet()
				if c.from == 0 {
					p.Sport = whole.Sport
				}
				checkArrive(t, x, s.below(replicas), written(p), seq+i)
				s.land(t, x, 50)
			}
			s.land(t, x, 100)
			tick(x, life)
			told := x.Take()
			if len(told) != len(came) {
				t.Fatalf("P12: of %v, the arrivals from %d on, there is told %v", came, seq, told)
			}
			for _, v := range told {
				fates[v.Fate]++
				if v.Seq < seq || v.Fate == api.Delivered && v.Where != where {
					t.Fatalf("P12: of %v, the arrivals from %d on, there is %v, and the whole goes to %d", came, seq, v, where)
				}
			}
			seq += len(came)
		}
	}
	checkWild(t, fates, api.Delivered, api.Timeout)
}
