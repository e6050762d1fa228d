package pieces

import "ferry/api"

// Store is the entries of one replica, the older first.
type Store struct {
	entries []entry
}

// Come tells what becomes of a piece that comes to its owner, and of those that were held back for it. The backend and the error are what Choose tells of the piece.
func (s *Store) Come(seq int, p Piece, backend uint8, e api.Errno) []api.Event {
	d := p.datagram()
	at := s.find(d)
	fate, refused := s.refuse(p, at, e)
	if refused {
		return []api.Event{{Seq: seq, Fate: fate}}
	}
	if at >= len(s.entries) {
		at = len(s.entries)
		s.entries = append(s.entries, entry{of: d})
	}
	events := s.entries[at].accept(seq, p, backend)
	if s.entries[at].complete() {
		s.drop(at)
	}
	return events
}

// find is the place of a datagram's entry, or the next free one if it has none.
func (s *Store) find(d datagram) int {
	for i, v := range s.entries {
		if v.of == d {
			return i
		}
	}
	return len(s.entries)
}

// refuse tells if a piece, with its entry at a place, may not be accepted, and what it becomes then: the order is the document's.
func (s *Store) refuse(p Piece, at int, e api.Errno) (api.Fate, bool) {
	if p.first() && e != api.OK {
		return api.NoBackend, true
	}
	begun := at < len(s.entries)
	if !begun && len(s.entries) >= api.MaxEntries {
		return api.Full, true
	}
	if begun && s.entries[at].clashes(p) {
		return api.Overlap, true
	}
	if p.first() || begun && s.entries[at].chosen {
		return 0, false
	}
	load := s.Load()
	if load.Bytes+p.Size > api.MaxHeld {
		return api.Full, true
	}
	return 0, false
}

// drop leaves the others in their order.
func (s *Store) drop(at int) {
	var rest []entry
	for i, v := range s.entries {
		if i != at {
			rest = append(rest, v)
		}
	}
	s.entries = rest
}

// Tick lets a tick go by for the entries, and tells of the pieces whose time is out.
func (s *Store) Tick(life int) []api.Event {
	var events []api.Event
	var rest []entry
	for _, v := range s.entries {
		v.age++
		if v.age < life {
			rest = append(rest, v)
			continue
		}
		late := v.timeout()
		events = append(events, late...)
	}
	s.entries = rest
	return events
}

// Load tells how much the replica keeps.
func (s *Store) Load() api.Load {
	load := api.Load{Entries: len(s.entries)}
	for _, v := range s.entries {
		load.Pieces += len(v.held)
		for _, w := range v.held {
			load.Bytes += w.size
		}
	}
	return load
}
