package promises

import (
	"testing"

	"ferry/api"
	"ferry/ferry"
)

// cut: a datagram of n bytes, above 4, in two pieces or more.
func (s *source) cut(id uint16, n int) []part {
	var l []part
	for from := 0; from < n; {
		to := min(from+4+4*s.below(5), n)
		if from == 0 && to == n {
			to = 4
		}
		l = append(l, part{id, from, to, to < n})
		from = to
	}
	return l
}

func shuffle[T any](s *source, l []T) {
	for i := len(l) - 1; i > 0; i-- {
		k := s.below(i + 1)
		l[i], l[k] = l[k], l[i]
	}
}

// land: what is on its way comes in, one after another in any order, till chance stops it.
func (s *source) land(t *testing.T, x *ferry.Cluster, goOn int) {
	t.Helper()
	for n := len(x.Flying()); n > 0 && s.below(100) < goOn; n-- {
		checkDeliver(t, x, s.below(n), api.OK)
	}
}

// TestP12Delivered: if nothing is lost, the owner has room and no pieces overlap, all pieces go where the whole goes.
func TestP12Delivered(t *testing.T) {
	s := &source{12}
	for range 2000 {
		replicas := 1 + s.below(5)
		x := begin(t, replicas, 20, 4, 8, 15, 16, 23, 42)
		var l []part
		n := 1 + s.below(3)
		for id := range n {
			l = append(l, s.cut(uint16(id), 5+s.below(48/n))...)
		}
		shuffle(s, l)
		for seq, c := range l {
			checkArrive(t, x, s.below(replicas), c.bytes(), seq)
			s.land(t, x, 50)
		}
		s.land(t, x, 100)
		where, _ := x.Choose(part{}.packet())
		told := x.Take()
		seen := map[int]bool{}
		for _, v := range told {
			if v.Fate != api.Delivered || v.Where != where || seen[v.Seq] {
				t.Fatalf("P12: the pieces %v: %v, want all Delivered once, to %d", l, told, where)
			}
			seen[v.Seq] = true
		}
		if len(told) != len(l) {
			t.Fatalf("P12: the pieces %v: %v, want all of them Delivered", l, told)
		}
		for replica := range replicas {
			checkHeld(t, x, replica, 0, 0, 0)
		}
	}
}

// TestP12OneBackend: though pieces are lost, come twice or find no room, those that are Delivered go where the whole of their datagram goes.
func TestP12OneBackend(t *testing.T) {
	s := &source{13}
	for range 1000 {
		replicas := 1 + s.below(5)
		x := begin(t, replicas, 20, 4, 8, 15, 16, 23, 42)
		var l []api.Packet
		for id := range uint16(8) {
			for _, c := range s.cut(id, 5+s.below(60)) {
				p := c.packet()
				p.Src = 10 + id
				l = append(l, p)
			}
		}
		shuffle(s, l)
		for seq, p := range append(l, l[:len(l)/2]...) {
			checkArrive(t, x, s.below(replicas), written(p), seq)
			s.land(t, x, 40)
			if n := len(x.Flying()); n > 0 && s.below(6) == 0 {
				checkLose(t, x, s.below(n), api.OK)
			}
		}
		s.land(t, x, 100)
		for _, v := range x.Take() {
			p := l[v.Seq%len(l)]
			whole := api.Packet{Src: p.Src, Dst: p.Dst, Proto: p.Proto, Sport: 80, Dport: 443}
			where, _ := x.Choose(whole)
			if v.Fate == api.Delivered && v.Where != where {
				t.Fatalf("P12: %v is Delivered to %d, the whole goes to %d", p, v.Where, where)
			}
		}
	}
}

// TestP12Once: each arrival has at most one event, and what has none is on its way or held back.
func TestP12Once(t *testing.T) {
	s := &source{14}
	for range 100 {
		replicas := 1 + s.below(5)
		x := begin(t, replicas, 20)
		m := newModel(replicas)
		told := map[int]bool{}
		for range 100 {
			s.move(t, x, m, 6)
			m.events = nil
			for _, v := range x.Take() {
				if told[v.Seq] || v.Seq < 0 || v.Seq >= m.arrivals {
					t.Fatalf("P12: of %d arrivals the event %v is told again, or has no arrival", m.arrivals, v)
				}
				told[v.Seq] = true
			}
			waiting := 0
			for _, way := range x.Flying() {
				if told[way.Seq] {
					t.Fatalf("P12: %v is on its way, and has an event", way)
				}
				waiting++
			}
			for replica := range replicas {
				l, _ := x.Held(replica)
				waiting += l.Pieces
			}
			if len(told)+waiting != m.arrivals {
				t.Fatalf("P12: of %d arrivals %d have an event, %d are on their way or held back", m.arrivals, len(told), waiting)
			}
		}
	}
}
