// Package pieces: what a replica keeps of the datagrams that come to it in pieces, and for how long (P10, P11).
package pieces

import "ferry/api"

// Piece is a piece of a datagram, without its bytes: nothing that is told of it hangs on them, but for their number.
type Piece struct {
	Head api.Packet // its Data are left out
	Size int
}

// Of is the piece that a packet is.
func Of(p api.Packet) Piece {
	size := len(p.Data)
	p.Data = nil
	return Piece{Head: p, Size: size}
}

func (p Piece) first() bool {
	return p.Head.Off == 0
}

func (p Piece) last() bool {
	return !p.Head.More
}

// bytes tells where in the datagram the piece lies.
func (p Piece) bytes() span {
	from := int(p.Head.Off) * api.Unit
	return span{from: from, to: from + p.Size}
}

// span is the bytes of a datagram from one on, up to another that is not in.
type span struct {
	from, to int
}

func (s span) meets(t span) bool {
	return s.from < t.to && t.from < s.to
}

// datagram is what tells of which datagram a piece is. It has no ports: a later piece does not know them.
type datagram struct {
	src, dst uint16
	proto    uint8
	id       uint16
}

func (p Piece) datagram() datagram {
	return datagram{src: p.Head.Src, dst: p.Head.Dst, proto: p.Head.Proto, id: p.Head.Id}
}
