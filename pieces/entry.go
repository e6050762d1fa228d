package pieces

import "ferry/api"

// entry is what the owner of a datagram knows of it.
type entry struct {
	of      datagram
	age     int       // in ticks, since it began
	spans   []span    // of the accepted pieces
	ended   bool      // the last piece is accepted
	end     int       // and the datagram ends here
	chosen  bool      // the first piece is accepted
	backend uint8     // and went there
	held    []waiting // in the order in which they came
}

// waiting is a piece that is held back.
type waiting struct {
	seq, size int
}

// clashes tells if a piece does not go with those that are accepted.
func (v *entry) clashes(p Piece) bool {
	s := p.bytes()
	if v.ended && (p.last() || s.to > v.end) {
		return true
	}
	for _, t := range v.spans {
		if s.meets(t) || p.last() && t.to > s.to {
			return true
		}
	}
	return false
}

// accept takes a piece in, and tells of all that are delivered by that; backend is the choice for a first piece.
func (v *entry) accept(seq int, p Piece, backend uint8) []api.Event {
	s := p.bytes()
	v.spans = append(v.spans, s)
	if p.last() {
		v.ended = true
		v.end = s.to
	}
	if p.first() {
		v.chosen = true
		v.backend = backend
	}
	if !v.chosen {
		v.held = append(v.held, waiting{seq: seq, size: p.Size})
		return nil
	}
	events := []api.Event{{Seq: seq, Fate: api.Delivered, Where: v.backend}}
	for _, w := range v.held {
		events = append(events, api.Event{Seq: w.seq, Fate: api.Delivered, Where: v.backend})
	}
	v.held = nil
	return events
}

// timeout tells of all that are held back till now, when their entry is gone.
func (v *entry) timeout() []api.Event {
	var events []api.Event
	for _, w := range v.held {
		events = append(events, api.Event{Seq: w.seq, Fate: api.Timeout})
	}
	return events
}

// complete need only count: accepted pieces have no byte in common, and none reaches above the end.
func (v *entry) complete() bool {
	size := 0
	for _, s := range v.spans {
		size += s.to - s.from
	}
	return v.ended && size == v.end
}
