package promises

import (
	"bytes"
	"slices"
	"testing"

	"ferry/api"
)

// scratch: writes into flights and into the spare room behind them; twice is as if never.
func scratch(l []api.Flight) {
	l = l[:cap(l)]
	for i, v := range l {
		l[i] = api.Flight{Seq: ^v.Seq, From: ^v.From, To: ^v.To}
	}
}

// TestP2Flying: what Flying told is the caller's: it does not change later, and what is written into it or behind it comes out nowhere.
func TestP2Flying(t *testing.T) {
	id := owned(0, 2, 1)[0]
	x := begin(t, 2, 20, 9)
	var left []api.Flight
	var all, kept [][]api.Flight
	for seq := range 30 {
		checkPart(t, x, 1, part{id, 0, 4, true}, seq, nil)
		left = append(left, api.Flight{Seq: seq, From: 1, To: 0})
		if seq%3 == 2 {
			k := seq / 3 % len(left)
			checkLose(t, x, k, api.OK)
			checkTake(t, x, refused(left[k].Seq, api.Lost)...)
			left = slices.Delete(left, k, k+1)
		}
		for range 2 {
			l := x.Flying()
			if !slices.Equal(l, left) {
				t.Errorf("P2, P9: Flying() = %v, want %v", l, left)
			}
			scratch(l)
			all, kept = append(all, l), append(kept, slices.Clone(l[:cap(l)]))
		}
	}
	checkKept(t, "Flying", all, kept)
	checkApart(t, all, scratch)
}

// TestP2Sent: the bytes of a piece on its way, or held back, may be changed by the caller, and are not written into.
func TestP2Sent(t *testing.T) {
	id := owned(0, 2, 1)[0]
	x := begin(t, 2, 20, 9)
	for seq, c := range []part{{id, 4, 8, true}, {id, 0, 4, true}, {id, 8, 11, false}} {
		list, whole := roomy(c.bytes())
		before := bytes.Clone(whole)
		checkArrive(t, x, 1-seq/2, list, seq)
		if !bytes.Equal(whole, before) {
			t.Errorf("P2: Arrive of %v writes into the bytes or behind them", c)
		}
		scribble(whole)
		before = bytes.Clone(whole)
		x.Flying()
		checkLose(t, x, 7, api.ErrArg)
		if !bytes.Equal(whole, before) {
			t.Errorf("P2: the bytes of %v are written into after Arrive", c)
		}
	}
	checkFlying(t, x, api.Flight{Seq: 0, From: 1, To: 0}, api.Flight{Seq: 1, From: 1, To: 0})
	checkHeld(t, x, 0, 1, 1, 3)
	checkDeliver(t, x, 0, api.OK)
	checkDeliver(t, x, 0, api.OK)
	checkTake(t, x, to(9, 1, 2, 0)...)
	checkHeld(t, x, 0, 0, 0, 0)
}

// TestP2Told: events that one piece brings about together are the caller's too, and those that come later are apart from them.
func TestP2Told(t *testing.T) {
	x := begin(t, 1, 20, 9)
	var all [][]api.Event
	for round := range 6 {
		seq := 5 * round
		for k := range 4 {
			checkArrive(t, x, 0, part{1, 4*k + 4, 4*k + 8, k < 3}.bytes(), seq+k)
		}
		checkArrive(t, x, 0, part{1, 0, 4, true}.bytes(), seq+4)
		l := x.Take()
		if !slices.Equal(l, to(9, seq+4, seq, seq+1, seq+2, seq+3)) {
			t.Errorf("P2, P10: Take() = %v", l)
		}
		scrawl(l)
		all = append(all, l)
	}
	checkApart(t, all, scrawl)
}

// TestP2Beside: clusters side by side have their own ways, entries and ends; another cluster's calls do nothing here.
func TestP2Beside(t *testing.T) {
	x, id := busy(t)
	y, _ := busy(t)
	z := begin(t, 2, 20, 8)
	checkPart(t, z, 1, part{id, 8, 12, false}, 0, nil)
	checkLose(t, y, 0, api.OK)
	checkDeliver(t, y, 0, api.OK)
	checkTake(t, y, refused(1, api.Lost)...)
	checkFlying(t, z)
	checkHeld(t, z, 1, 1, 1, 4)
	checkHeld(t, y, 1, 1, 3, 13)
	checkBusy(t, x, id)
	checkHeld(t, y, 1, 1, 3, 13)
	checkPart(t, z, 1, part{id, 0, 8, true}, 1, to(8, 1, 0))
	w, _ := busy(t)
	checkBusy(t, w, id)
}
