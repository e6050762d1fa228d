// Package packet: packets as bytes, and back (P3, P4).
package packet

import "ferry/api"

const (
	markLast = 16 // the first byte of a head without More
	markMore = 17 // and with it
	ports    = 4  // bytes of Sport and Dport
	sumAt    = 10 // where a head has its checksum
)

// WellFormed tells if p is a packet that may be.
func WellFormed(p api.Packet) bool {
	n := len(p.Data)
	if p.Off > api.MaxOff || n > api.MaxData {
		return false
	}
	if p.More && (n == 0 || n%api.Unit != 0) {
		return false
	}
	if p.Off == 0 {
		return true
	}
	return n > 0 && p.Sport == 0 && p.Dport == 0
}

// Whole tells if p is no piece, but all of its datagram.
func Whole(p api.Packet) bool {
	return p.Off == 0 && !p.More
}

// Pack writes a packet as bytes.
func Pack(p api.Packet) ([]byte, api.Errno) {
	if !WellFormed(p) {
		return nil, api.ErrField
	}
	h := headOf(p)
	var b []byte
	b = append(b, h[:]...)
	if p.Off == 0 {
		b = append(b, byte(p.Sport>>8), byte(p.Sport), byte(p.Dport>>8), byte(p.Dport))
	}
	b = append(b, p.Data...)
	return b, api.OK
}

// headOf is the head of a well-formed packet: what stands behind it is so short that a byte can count it.
func headOf(p api.Packet) [api.Head]byte {
	mark := byte(markLast)
	if p.More {
		mark = markMore
	}
	n := len(p.Data)
	if p.Off == 0 {
		n += ports
	}
	h := [api.Head]byte{
		mark, p.Proto,
		byte(p.Src >> 8), byte(p.Src),
		byte(p.Dst >> 8), byte(p.Dst),
		byte(p.Id >> 8), byte(p.Id),
		p.Off, byte(n),
	}
	sum := checksum(h)
	h[sumAt] = byte(sum >> 8)
	h[sumAt+1] = byte(sum)
	return h
}

// checksum leaves the checksum's own place out, which counts as 0.
func checksum(h [api.Head]byte) uint16 {
	sum := 0
	for i := 0; i < sumAt; i += 2 {
		sum += int(h[i])*256 + int(h[i+1])
		if sum > 65535 {
			sum += 1 - 65536
		}
	}
	return uint16(65535 - sum)
}

// Unpack reads a packet.
func Unpack(b []byte) (api.Packet, api.Errno) {
	if len(b) < api.Head {
		return api.Packet{}, api.ErrShort
	}
	var h [api.Head]byte
	copy(h[:], b)
	if h[0] != markLast && h[0] != markMore {
		return api.Packet{}, api.ErrVersion
	}
	rest := b[api.Head:]
	if len(rest) != int(h[9]) || h[8] == 0 && len(rest) < ports {
		return api.Packet{}, api.ErrLength
	}
	sum := checksum(h)
	if word(h[sumAt], h[sumAt+1]) != sum {
		return api.Packet{}, api.ErrSum
	}
	p := ofHead(h)
	if h[8] == 0 {
		p.Sport = word(rest[0], rest[1])
		p.Dport = word(rest[2], rest[3])
		rest = rest[ports:]
	}
	p.Data = append(p.Data, rest...)
	if !WellFormed(p) {
		return api.Packet{}, api.ErrField
	}
	return p, api.OK
}

// ofHead is what a head alone tells of its packet.
func ofHead(h [api.Head]byte) api.Packet {
	var p api.Packet
	p.Src = word(h[2], h[3])
	p.Dst = word(h[4], h[5])
	p.Proto = h[1]
	p.Id = word(h[6], h[7])
	p.Off = h[8]
	p.More = h[0] == markMore
	return p
}

func word(high byte, low byte) uint16 {
	return uint16(high)<<8 | uint16(low)
}
