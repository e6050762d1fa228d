package promises

import (
	"bytes"
	"hash/fnv"
	"slices"
	"testing"

	"ferry/api"
	"ferry/ferry"
)

// hashOf: P5, as the library has it.
func hashOf(b ...byte) int {
	h := fnv.New32a()
	h.Write(b)
	return int(h.Sum32())
}

// tableOf: P6, round by round; each backend keeps the list of all slots that it wants, and strikes out what it finds taken.
func tableOf(backends []uint8) []uint8 {
	order := slices.Clone(backends)
	slices.Sort(order)
	wants := make([][]int, len(order))
	for i, b := range order {
		for j := range 31 {
			wants[i] = append(wants[i], (hashOf(b, 0)%31+j*(hashOf(b, 1)%30+1))%31)
		}
	}
	got := map[int]uint8{}
	for len(order) > 0 && len(got) < 31 {
		for i, b := range order {
			free := slices.DeleteFunc(wants[i], func(slot int) bool { _, is := got[slot]; return is })
			if len(free) > 0 {
				got[free[0]] = b
			}
			wants[i] = free
		}
	}
	var table []uint8
	for slot := range len(got) {
		table = append(table, got[slot])
	}
	return table
}

// checkTable: Table answers that list, or that error and no list.
func checkTable(t *testing.T, backends, want []uint8, e api.Errno) {
	t.Helper()
	l, f := ferry.Table(backends)
	if f != e || !bytes.Equal(l, want) {
		t.Errorf("P6: Table(%.40v) = %v, %d, want %v, %d", backends, l, f, want, e)
	}
}

// backends: up to most different ones, in any order.
func (s *source) backends(most int) []uint8 {
	var l []uint8
	for n := s.below(most + 1); len(l) < n; {
		b := uint8(s.below(256))
		if !slices.Contains(l, b) {
			l = append(l, b)
		}
	}
	return l
}

func TestP6Examples(t *testing.T) {
	checkTable(t, nil, nil, api.ErrNone)
	checkTable(t, []uint8{}, nil, api.ErrNone)
	checkTable(t, []uint8{3, 3}, nil, api.ErrArg)
	checkTable(t, []uint8{9}, bytes.Repeat([]byte{9}, 31), api.OK)
	for _, c := range []struct{ list, want []uint8 }{
		{numbers(5, 4, 3, 2, 1, 0), numbers(4, 5, 0, 3, 5, 3, 2, 0, 4, 1, 1, 1, 0, 2, 1, 1, 5, 2, 3, 3, 4, 2, 4, 5, 4, 5, 3, 2, 0, 0, 0)},
		{numbers(7, 200), numbers(200, 200, 7, 7, 7, 7, 7, 7, 7, 200, 7, 7, 7, 7, 7, 200, 200, 200, 7, 7, 7, 200, 200, 200, 200, 200, 7, 200, 200, 200, 200)},
		{numbers(255, 254, 253, 252), numbers(252, 254, 253, 254, 253, 252, 253, 252, 253, 255, 252, 254, 255, 253, 252, 255, 254, 253, 253, 254, 255, 252, 252, 255, 254, 254, 255, 252, 253, 255, 254)},
		{numbers(5, 3, 8, 250, 0), numbers(8, 5, 0, 3, 8, 3, 5, 0, 250, 250, 8, 3, 0, 250, 5, 0, 5, 0, 3, 3, 0, 5, 8, 8, 250, 5, 3, 250, 250, 8, 0)},
	} {
		checkTable(t, c.list, c.want, api.OK)
	}
}

// TestP6Few: each backend alone, and each two in both orders.
func TestP6Few(t *testing.T) {
	for a := range 256 {
		checkTable(t, numbers(a), bytes.Repeat(numbers(a), 31), api.OK)
		for b := range a {
			want := tableOf(numbers(b, a))
			checkTable(t, numbers(a, b), want, api.OK)
			checkTable(t, numbers(b, a), want, api.OK)
		}
		if t.Failed() {
			return
		}
	}
}

// TestP6Many: any backends in any order; the rounds give each of them as many slots, and the lesser numbers the odd ones.
func TestP6Many(t *testing.T) {
	s := &source{4}
	for range 6000 {
		list := s.backends(6)
		if len(list) == 0 {
			continue
		}
		table, e := ferry.Table(list)
		if e != api.OK || !bytes.Equal(table, tableOf(list)) {
			t.Fatalf("P6: Table(%v) = %v, %d, want %v", list, table, e, tableOf(list))
		}
		order := slices.Clone(list)
		slices.Sort(order)
		for i, b := range order {
			n := 31 / len(order)
			if i < 31%len(order) {
				n++
			}
			if bytes.Count(table, []byte{b}) != n {
				t.Fatalf("P6: Table(%v) gives %d not %d slots: %v", list, b, n, table)
			}
		}
	}
}

// TestP6Wrong: too many, and one twice, at any two places.
func TestP6Wrong(t *testing.T) {
	for n := 2; n <= 6; n++ {
		for k := range n {
			for i := range k {
				list := some(n)
				list[k] = list[i]
				checkTable(t, list, nil, api.ErrArg)
			}
		}
	}
	checkTable(t, some(6), tableOf(some(6)), api.OK)
	for _, n := range []int{7, 8, 31, 255, 256, 257, 1 << 20} {
		checkTable(t, some(n), nil, api.ErrArg)
		checkTable(t, make([]uint8, n), nil, api.ErrArg)
	}
}
