package promises

import (
	"slices"
	"testing"

	"ferry/api"
)

// TestP2Late: what a tick told of is the caller's, whole and spare room, and later ticks tell of their own.
func TestP2Late(t *testing.T) {
	x := begin(t, 2, 2, 9)
	id := owned(1, 2, 1)[0]
	var all, kept [][]api.Event
	for n := range 12 {
		seq := 12 * n
		var want []int
		for k := range 12 {
			b := part{id, 4*k + 4, 4*k + 8, true}.bytes()
			checkArrive(t, x, 1, b, seq+k)
			scribble(b) // nothing of it is kept
			want = append(want, seq+k)
		}
		checkTick(t, x)
		x.Tick()
		l := x.Take()
		if !slices.Equal(l, late(want...)) {
			t.Errorf("P2, P11: Take() = %v, want %v", l, late(want...))
		}
		scrawl(l)
		all, kept = append(all, l), append(kept, slices.Clone(l[:cap(l)]))
		none := x.Take()
		all, kept = append(all, none), append(kept, slices.Clone(none[:cap(none)]))
	}
	checkKept(t, "Take", all, kept)
	checkApart(t, all, scrawl)
}

// TestP2Untaken: what stands to be told is not touched by what the caller does to what was told before.
func TestP2Untaken(t *testing.T) {
	x := begin(t, 1, 1, 9)
	var told []api.Event
	for round := range 20 {
		seq := 2 * round
		checkArrive(t, x, 0, part{1, 4, 8, true}.bytes(), seq)
		x.Tick()
		checkArrive(t, x, 0, nil, seq+1)
		scrawl(told)
		told = x.Take()
		if !slices.Equal(told, append(late(seq), refused(seq+1, api.Malformed)...)) {
			t.Errorf("P2, P11: Take() = %v in the round %d", told, round)
		}
	}
}

// TestP2Times: clusters side by side have a time and a life of their own, whenever they began.
func TestP2Times(t *testing.T) {
	x, y := begin(t, 1, 3, 9), begin(t, 1, 5, 9)
	checkPart(t, x, 0, part{1, 4, 8, true}, 0, nil)
	checkPart(t, y, 0, part{1, 4, 8, true}, 0, nil)
	checkTicks(t, x, 2)
	z := begin(t, 1, 1, 9)
	checkPart(t, z, 0, part{1, 4, 8, true}, 0, nil)
	checkTick(t, x, 0)
	checkTicks(t, x, 40)
	checkHeld(t, z, 0, 1, 1, 4)
	checkTick(t, z, 0)
	checkTicks(t, y, 4)
	checkPart(t, x, 0, part{1, 4, 8, true}, 1, nil)
	begin(t, 1, 20, 9)
	checkTick(t, y, 0)
	checkTicks(t, x, 2)
	checkHeld(t, x, 0, 1, 1, 4)
	checkTick(t, x, 1)
}

// TestP2Same: the same calls have the same answers, also with calls of another cluster between them.
func TestP2Same(t *testing.T) {
	for seed := range uint64(100) {
		s, r := &source{seed + 500}, &source{seed + 500}
		replicas, life := 1+int(seed)%5, 1+int(seed)%20
		x, y := begin(t, replicas, life, 1, 2, 3), begin(t, replicas, life, 1, 2, 3)
		other := begin(t, replicas, 1, 4)
		m, n := newModel(replicas, life), newModel(replicas, life)
		m.backends, n.backends = []uint8{1, 2, 3}, []uint8{1, 2, 3}
		for k := range 60 {
			s.moveOrTick(t, x, m, 4, 4)
			other.Arrive(k%replicas, part{uint16(k % 4), 4, 8, true}.bytes())
			other.Deliver(0)
			other.Tick()
			r.moveOrTick(t, y, n, 4, 4)
		}
		a, b := x.Take(), y.Take()
		if !slices.Equal(a, b) || !slices.Equal(x.Flying(), y.Flying()) {
			t.Errorf("P2: the same calls of two clusters: %v, %v; %v, %v", a, b, x.Flying(), y.Flying())
		}
	}
}
