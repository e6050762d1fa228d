package promises

import (
	"testing"

	"ferry/api"
	"ferry/ferry"
)

// TestP7New: each number of replicas and ticks at the edges; one wrong number is enough.
func TestP7New(t *testing.T) {
	around := append(ints(), 0, 1, 2, 3, 4, 5, 6, 7, 19, 20, 21, 22)
	for _, replicas := range around {
		for _, life := range around {
			x, e := ferry.New(replicas, life)
			good := replicas >= 1 && replicas <= 5 && life >= 1 && life <= 20
			if good != (x != nil) || good != (e == api.OK) || !good && e != api.ErrArg {
				t.Errorf("P7: New(%d, %d) = %v, %d", replicas, life, x, e)
			}
		}
	}
}

// TestP7Replicas: there are as many as New was told, numbered from 0 on.
func TestP7Replicas(t *testing.T) {
	for n := 1; n <= 5; n++ {
		x := begin(t, n, 3, 9)
		for replica := range n {
			checkArrive(t, x, replica, written(api.Packet{}), replica)
		}
		_, e := x.Arrive(n, written(api.Packet{}))
		if e != api.ErrArg {
			t.Errorf("P7: of %d replicas there is one with the number %d: %d", n, n, e)
		}
	}
}

func TestP7Examples(t *testing.T) {
	x := begin(t, 1, 1)
	for _, c := range []struct {
		p       api.Packet
		a, b, c uint8
	}{
		{api.Packet{}, 5, 200, 5},
		{api.Packet{Src: 1, Dst: 2, Proto: 6, Sport: 80, Dport: 443}, 2, 200, 5},
		{api.Packet{Src: 256, Dst: 512, Proto: 17, Sport: 53, Dport: 5300}, 1, 200, 0},
		{api.Packet{Src: 65535, Dst: 65535, Proto: 255, Sport: 65535, Dport: 65535}, 2, 200, 0},
		{api.Packet{Src: 4660, Dst: 22136, Proto: 1, Sport: 43981, Dport: 61185}, 3, 7, 3},
	} {
		for i, list := range [][]uint8{{0, 1, 2, 3, 4, 5}, {7, 200}, {5, 3, 8, 250, 0}} {
			want := [3]uint8{c.a, c.b, c.c}[i]
			setBackends(t, x, list, api.OK)
			b, e := x.Choose(c.p)
			if b != want || e != api.OK {
				t.Errorf("P7: with the backends %v Choose(%v) = %d, %d, want %d", list, c.p, b, e, want)
			}
		}
	}
	for _, c := range []struct {
		p    api.Packet
		want [5]int
	}{
		{api.Packet{}, [5]int{0, 1, 2, 3, 0}},
		{api.Packet{Src: 1, Dst: 2, Proto: 6, Id: 7}, [5]int{0, 1, 2, 3, 1}},
		{api.Packet{Src: 256, Dst: 512, Proto: 17, Id: 53}, [5]int{0, 0, 2, 2, 4}},
		{api.Packet{Src: 65535, Dst: 65535, Proto: 255, Id: 65535}, [5]int{0, 0, 0, 0, 3}},
		{api.Packet{Src: 4660, Dst: 22136, Proto: 1, Id: 43981}, [5]int{0, 0, 1, 0, 1}},
	} {
		for i, want := range c.want {
			n := begin(t, i+1, 1).Owner(c.p)
			if n != want {
				t.Errorf("P7: of %d replicas the owner of %v is %d, want %d", i+1, c.p, n, want)
			}
		}
	}
}

// TestP7Backends: none at first; then those that were told last, in whatever order, till there are none again.
func TestP7Backends(t *testing.T) {
	x := begin(t, 2, 20)
	checkBackends(t, x, nil)
	for _, list := range [][]uint8{{9}, {1, 2, 3}, {3, 2, 1}, {0}, {}, {0, 255}, {60, 10, 50, 20, 40, 30}, nil, {6}, {6}} {
		setBackends(t, x, list, api.OK)
		checkBackends(t, x, list)
	}
}

// TestP7Wrong: ErrArg as in Table, with backends and without.
func TestP7Wrong(t *testing.T) {
	for _, list := range [][]uint8{nil, {9}, {1, 2, 3, 4, 5, 6}} {
		x := begin(t, 5, 20, list...)
		for _, wrong := range [][]uint8{{3, 3}, {0, 0}, {1, 2, 1}, {1, 2, 3, 4, 5, 5}, {1, 2, 3, 4, 5, 6, 7}, {9, 9, 9, 9, 9, 9, 9}, make([]uint8, 1<<20), some(256)} {
			setBackends(t, x, wrong, api.ErrArg)
		}
		checkBackends(t, x, list)
	}
}

// TestP7Many: any packet, well-formed or not, in any cluster.
func TestP7Many(t *testing.T) {
	s := &source{5}
	for range 3000 {
		n := 1 + s.below(5)
		list := s.backends(6)
		x := begin(t, n, 1+s.below(20), list...)
		for range 4 {
			p := s.packet()
			checkChoose(t, x, p, list)
			owner := x.Owner(p)
			if owner != ownerOf(p, n) {
				t.Errorf("P7: of %d replicas the owner of %v is %d, want %d", n, p, owner, ownerOf(p, n))
			}
			if t.Failed() {
				return
			}
		}
	}
}

// TestP7Apart: a flow is told by its five fields alone, a datagram by its four.
func TestP7Apart(t *testing.T) {
	s := &source{6}
	x := begin(t, 5, 1, 1, 2, 3, 4, 5, 6)
	for range 2000 {
		p := s.packet()
		flow, datagram := s.packet(), s.packet()
		flow.Src, flow.Dst, flow.Proto, flow.Sport, flow.Dport = p.Src, p.Dst, p.Proto, p.Sport, p.Dport
		datagram.Src, datagram.Dst, datagram.Proto, datagram.Id = p.Src, p.Dst, p.Proto, p.Id
		a, _ := x.Choose(p)
		b, _ := x.Choose(flow)
		if a != b {
			t.Fatalf("P7: %v and %v are of one flow, and go to %d and %d", p, flow, a, b)
		}
		if x.Owner(p) != x.Owner(datagram) {
			t.Fatalf("P7: %v and %v are of one datagram, and have the owners %d and %d", p, datagram, x.Owner(p), x.Owner(datagram))
		}
	}
}

// TestP7Still: the owner does not hang on the backends, nor on what has arrived.
func TestP7Still(t *testing.T) {
	x := begin(t, 5, 1)
	for i, p := range flows() {
		p.Id = uint16(i)
		setBackends(t, x, some(i%7), api.OK)
		checkArrive(t, x, i%5, written(p), i)
		if x.Owner(p) != ownerOf(p, 5) {
			t.Errorf("P7: the owner of %v is %d, want %d", p, x.Owner(p), ownerOf(p, 5))
		}
	}
}
