package promises

import (
	"bytes"
	"slices"
	"testing"

	"ferry/api"
	"ferry/ferry"
)

// lists: of backends, those that may be and those that may not.
func lists() [][]byte {
	return [][]byte{nil, {9}, {2, 1}, {60, 10, 50, 20, 40, 30}, {3, 3}, {1, 2, 3, 4, 5, 6, 7}}
}

func TestP2Table(t *testing.T) {
	var tables [][]byte
	for _, backends := range lists() {
		list, whole := roomy(backends)
		before := bytes.Clone(whole)
		a, _ := ferry.Table(list)
		b, _ := ferry.Table(list)
		if !bytes.Equal(whole, before) {
			t.Errorf("P2: Table(%v) writes into the list or behind it", backends)
		}
		tables = append(tables, a, b, list)
	}
	checkApart(t, tables, scribble)
}

func TestP2Backends(t *testing.T) {
	for _, backends := range lists() {
		list, whole := roomy(backends)
		before := bytes.Clone(whole)
		x := begin(t, 2, 2)
		e := x.Backends(list)
		if !bytes.Equal(whole, before) {
			t.Errorf("P2: Backends(%v) writes into the list or behind it", backends)
		}
		table, _ := ferry.Table(list)
		scribble(whole)
		scribble(table)
		if e != api.OK {
			backends = nil
		}
		checkBackends(t, x, backends)
	}
}

// TestP2Choose: Choose, Owner and Arrive leave what they are handed as it was, and what stands behind it.
func TestP2Choose(t *testing.T) {
	for _, p := range packets() {
		data, wholeData := roomy(p.Data)
		list, wholeList := roomy(written(p))
		dataBefore, listBefore := bytes.Clone(wholeData), bytes.Clone(wholeList)
		p.Data = data
		x := begin(t, 2, 2, 9)
		x.Choose(p)
		x.Owner(p)
		if !bytes.Equal(wholeData, dataBefore) {
			t.Errorf("P2: Choose or Owner of %v writes into Data or behind it", p)
		}
		checkArrive(t, x, 0, list, 0)
		checkArrive(t, x, 1, list, 1)
		x.Take()
		if !bytes.Equal(wholeList, listBefore) {
			t.Errorf("P2: Arrive of %v writes into the bytes or behind them", list)
		}
	}
}

// TestP2Arrive: bytes that arrived may be changed before their event is taken.
func TestP2Arrive(t *testing.T) {
	list := []uint8{1, 2, 3, 4, 5, 6}
	x := begin(t, 2, 2, list...)
	var want []api.Event
	b := make([]byte, 16)
	for i, p := range flows() {
		copy(b, written(p))
		checkArrive(t, x, i%2, b, i)
		want = append(want, api.Event{Seq: i, Where: tableOf(list)[i]})
		scribble(b)
	}
	checkTake(t, x, want...)
}

// scrawl: writes into events and into the spare room behind them; twice is as if never.
func scrawl(l []api.Event) {
	l = l[:cap(l)]
	for i, v := range l {
		l[i] = api.Event{Seq: ^v.Seq, Fate: ^v.Fate, Where: ^v.Where}
	}
}

// TestP2Take: events that were taken are the caller's: they do not change later, and what is written into them or behind them comes out nowhere.
func TestP2Take(t *testing.T) {
	x := begin(t, 1, 1, 9)
	seq := 0
	var all, kept [][]api.Event
	for n := range 12 {
		var want []api.Event
		for range n {
			checkArrive(t, x, 0, written(api.Packet{}), seq)
			want = append(want, api.Event{Seq: seq, Where: 9})
			seq++
		}
		l := x.Take()
		if !slices.Equal(l, want) {
			t.Errorf("P2, P8: Take() = %v, want %v", l, want)
		}
		scrawl(l)
		all, kept = append(all, l), append(kept, slices.Clone(l[:cap(l)]))
	}
	checkKept(t, "Take", all, kept)
	checkApart(t, all, scrawl)
}

// TestP2Clusters: clusters side by side have their own backends, numbers and events.
func TestP2Clusters(t *testing.T) {
	b := written(api.Packet{Src: 3})
	x := begin(t, 1, 1, 9)
	y := begin(t, 2, 1, 8)
	z := begin(t, 5, 1)
	checkArrive(t, x, 0, b, 0)
	checkArrive(t, y, 1, b, 0)
	checkArrive(t, y, 0, nil, 1)
	checkArrive(t, z, 4, b, 0)
	setBackends(t, z, []uint8{7}, api.OK)
	checkArrive(t, x, 0, b, 1)
	checkArrive(t, z, 3, b, 1)
	checkTake(t, y, api.Event{Seq: 0, Where: 8}, api.Event{Seq: 1, Fate: api.Malformed})
	checkTake(t, x, api.Event{Seq: 0, Where: 9}, api.Event{Seq: 1, Where: 9})
	checkTake(t, z, api.Event{Seq: 0, Fate: api.NoBackend}, api.Event{Seq: 1, Where: 7})
	begin(t, 5, 20, 1, 2, 3)
	checkBackends(t, x, []uint8{9})
	checkBackends(t, y, []uint8{8})
	checkBackends(t, z, []uint8{7})
	_, e := x.Arrive(1, b)
	if e != api.ErrArg {
		t.Errorf("P2: a cluster of one replica has two, now that there is another cluster: %d", e)
	}
}
