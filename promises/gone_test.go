package promises

import (
	"testing"

	"ferry/api"
)

// orders: all orders of n things.
func orders(n int) [][]int {
	if n == 0 {
		return [][]int{nil}
	}
	var all [][]int
	for _, o := range orders(n - 1) {
		for at := range n {
			l := append([]int(nil), o[:at]...)
			l = append(l, n-1)
			all = append(all, append(l, o[at:]...))
		}
	}
	return all
}

// TestP10Gone: in whatever order its pieces come, the entry is there till the last of them, and then gone.
func TestP10Gone(t *testing.T) {
	l := []part{{1, 0, 8, true}, {1, 8, 12, true}, {1, 12, 24, true}, {1, 24, 25, false}}
	for _, order := range orders(4) {
		x := begin(t, 1, 20, 9)
		var early []int
		bytes, known := 0, false
		for seq, k := range order {
			c := l[k]
			var want []api.Event
			if c.from == 0 {
				known, want = true, to(9, append([]int{seq}, early...)...)
				early, bytes = nil, 0
			} else if known {
				want = to(9, seq)
			} else {
				early, bytes = append(early, seq), bytes+c.to-c.from
			}
			checkPart(t, x, 0, c, seq, want)
			if seq < 3 {
				checkHeld(t, x, 0, 1, len(early), bytes)
			}
		}
		checkHeld(t, x, 0, 0, 0, 0)
	}
}

// TestP10Anew: after an entry is gone, the same datagram begins another, with nothing of the old.
func TestP10Anew(t *testing.T) {
	x := begin(t, 1, 20, 9)
	for round := range 5 {
		seq := 4 * round
		checkPart(t, x, 0, part{1, 8 + 4*round, 12 + 4*round, false}, seq, nil)
		checkHeld(t, x, 0, 1, 1, 4)
		checkPart(t, x, 0, part{1, 0, 4, true}, seq+1, to(9, seq+1, seq))
		checkPart(t, x, 0, part{1, 4, 8 + 4*round, true}, seq+2, to(9, seq+2))
		checkHeld(t, x, 0, 0, 0, 0)
		checkPart(t, x, 0, part{1, 0, 4, false}, seq+3, to(9, seq+3)) // a whole packet has no entry
		checkHeld(t, x, 0, 0, 0, 0)
	}
}

// TestP10Whole: a whole packet does not touch the entry of pieces with its Id, nor is it held up by it.
func TestP10Whole(t *testing.T) {
	x := begin(t, 1, 20, 9)
	checkPart(t, x, 0, part{1, 4, 8, false}, 0, nil)
	checkPart(t, x, 0, part{1, 0, 8, false}, 1, to(9, 1))
	checkPart(t, x, 0, part{1, 0, 4, false}, 2, to(9, 2))
	checkHeld(t, x, 0, 1, 1, 4)
	checkPart(t, x, 0, part{1, 0, 4, true}, 3, to(9, 3, 0))
	checkHeld(t, x, 0, 0, 0, 0)
}

// TestP10Greatest: the pieces that reach furthest, and the least ones there are.
func TestP10Greatest(t *testing.T) {
	x := begin(t, 1, 20, 9)
	checkPart(t, x, 0, part{1, 60, 92, false}, 0, nil)
	checkPart(t, x, 0, part{1, 0, 32, true}, 1, to(9, 1, 0))
	checkPart(t, x, 0, part{1, 32, 60, true}, 2, to(9, 2))
	checkHeld(t, x, 0, 0, 0, 0)
	checkPart(t, x, 0, part{1, 60, 92, true}, 3, nil)
	checkPart(t, x, 0, part{1, 56, 60, false}, 4, refused(4, api.Overlap))
	checkPart(t, x, 0, part{1, 60, 61, false}, 5, refused(5, api.Overlap))
	checkHeld(t, x, 0, 1, 1, 32)
	y := begin(t, 1, 20, 9)
	checkPart(t, y, 0, part{1, 60, 61, false}, 0, nil)
	for k := 1; k < 11; k++ {
		checkPart(t, y, 0, part{1, 4 * k, 4*k + 4, true}, k, nil)
		checkHeld(t, y, 0, 1, k+1, 4*k+1)
	}
	checkPart(t, y, 0, part{1, 0, 4, true}, 11, to(9, 11, 0, 1, 2, 3, 4, 5, 6, 7, 8, 9, 10))
	for k := 11; k < 15; k++ {
		checkHeld(t, y, 0, 1, 0, 0)
		checkPart(t, y, 0, part{1, 4 * k, 4*k + 4, true}, k+1, to(9, k+1))
	}
	checkHeld(t, y, 0, 0, 0, 0)
}
