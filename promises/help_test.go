// Package promises: tests of the document's promises, by their numbers, through the calls of package ferry alone.
package promises

import (
	"bytes"

	"ferry/api"
)

// numbers: bytes out of numbers.
func numbers(l ...int) []byte {
	var b []byte
	for _, n := range l {
		b = append(b, byte(n))
	}
	return b
}

// some: n bytes, no two neighbours alike.
func some(n int) []byte {
	b := make([]byte, n)
	for i := range b {
		b[i] = byte(7*i + 3)
	}
	return b
}

// samePacket: nil and empty Data are the same.
func samePacket(p, q api.Packet) bool {
	return p.Src == q.Src && p.Dst == q.Dst && p.Proto == q.Proto && p.Id == q.Id && p.Off == q.Off &&
		p.More == q.More && p.Sport == q.Sport && p.Dport == q.Dport && bytes.Equal(p.Data, q.Data)
}

// mayBe: the words of "well-formed", one by one.
func mayBe(p api.Packet) bool {
	offGood := p.Off <= 15
	sizeGood := len(p.Data) <= 32
	moreGood := !p.More || len(p.Data) > 0 && len(p.Data)%4 == 0
	laterGood := p.Off == 0 || len(p.Data) > 0 && p.Sport == 0 && p.Dport == 0
	return offGood && sizeGood && moreGood && laterGood
}

// sumOf: the checksum of a head. (Folding keeps the rest modulo 65535, and is 0 only if all words are.)
func sumOf(head []byte) int {
	all := 0
	for i := 0; i < 10; i += 2 {
		all += int(head[i])<<8 + int(head[i+1])
	}
	if all > 0 {
		all = (all-1)%65535 + 1
	}
	return 65535 ^ all
}

// summed: a copy of b with the right checksum.
func summed(b []byte) []byte {
	c := bytes.Clone(b)
	sum := sumOf(c)
	c[10], c[11] = byte(sum>>8), byte(sum)
	return c
}

// written: the bytes of a packet, by P3, whether it is well-formed or not.
func written(p api.Packet) []byte {
	first := 16
	if p.More {
		first = 17
	}
	var rest []byte
	if p.Off == 0 {
		rest = numbers(int(p.Sport>>8), int(p.Sport&255), int(p.Dport>>8), int(p.Dport&255))
	}
	rest = append(rest, p.Data...)
	head := numbers(first, int(p.Proto), int(p.Src>>8), int(p.Src&255), int(p.Dst>>8), int(p.Dst&255), int(p.Id>>8), int(p.Id&255), int(p.Off), len(rest), 0, 0)
	return append(summed(head), rest...)
}

// source: numbers that look like chance and are the same in each run.
type source struct{ state uint64 }

func (s *source) below(n int) int {
	s.state = s.state*6364136223846793005 + 1442695040888963407
	return int((s.state >> 33) % uint64(n))
}

func (s *source) bytes(n int) []byte {
	b := make([]byte, n)
	for i := range b {
		b[i] = byte(s.below(256))
	}
	return b
}

// packet: any packet; about half of them are well-formed.
func (s *source) packet() api.Packet {
	p := api.Packet{
		Src: uint16(s.below(65536)), Dst: uint16(s.below(65536)), Proto: uint8(s.below(256)), Id: uint16(s.below(65536)),
		Off: uint8(s.below(18)), More: s.below(2) == 0, Data: s.bytes(4 * s.below(10)),
	}
	if s.below(3) == 0 {
		p.Off = 0
	}
	if s.below(3) == 0 {
		p.Data = s.bytes(s.below(40))
	}
	if p.Off == 0 || s.below(8) == 0 {
		p.Sport, p.Dport = uint16(s.below(65536)), uint16(s.below(65536))
	}
	return p
}
