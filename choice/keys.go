package choice

import "ferry/api"

// Flow is the hash of what tells a packet's flow.
func Flow(p api.Packet) uint32 {
	b := ends(p)
	b = append(b, byte(p.Sport>>8), byte(p.Sport), byte(p.Dport>>8), byte(p.Dport))
	return Hash(b)
}

// Datagram is the hash of what tells a packet's datagram: each piece has it, with ports or without.
func Datagram(p api.Packet) uint32 {
	b := ends(p)
	b = append(b, byte(p.Id>>8), byte(p.Id))
	return Hash(b)
}

// ends is what flows and datagrams are both told by: the bytes of Src, Dst and Proto.
func ends(p api.Packet) []byte {
	return []byte{byte(p.Src >> 8), byte(p.Src), byte(p.Dst >> 8), byte(p.Dst), p.Proto}
}
