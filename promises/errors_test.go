package promises

import (
	"bytes"
	"testing"

	"ferry/api"
	"ferry/ferry"
)

// answer: what Unpack answers, by P4, each error asked for by itself, the one named first last.
func answer(b []byte) (api.Packet, api.Errno) {
	if len(b) < 12 {
		return api.Packet{}, api.ErrShort
	}
	behind := b[12:]
	p := api.Packet{Src: uint16(b[2])<<8 + uint16(b[3]), Dst: uint16(b[4])<<8 + uint16(b[5]), Proto: b[1], Id: uint16(b[6])<<8 + uint16(b[7]), Off: b[8], More: b[0] == 17, Data: behind}
	if b[8] == 0 && len(behind) >= 4 {
		p.Sport, p.Dport, p.Data = uint16(behind[0])<<8+uint16(behind[1]), uint16(behind[2])<<8+uint16(behind[3]), behind[4:]
	}
	e := api.OK
	if !mayBe(p) {
		e = api.ErrField
	}
	if sumOf(b) != int(b[10])<<8+int(b[11]) {
		e = api.ErrSum
	}
	if int(b[9]) != len(behind) || b[8] == 0 && len(behind) < 4 {
		e = api.ErrLength
	}
	if b[0] != 16 && b[0] != 17 {
		e = api.ErrVersion
	}
	if e != api.OK {
		return api.Packet{}, e
	}
	return p, api.OK
}

// TestP1Order: wherever several errors apply, the one named first is told, with the zero packet.
func TestP1Order(t *testing.T) {
	// Off 16 is a wrong field too, so that each of these has all the later errors as well.
	field := written(api.Packet{Off: 16, Data: some(4)})
	sum := bytes.Clone(field)
	sum[11] ^= 1
	length := sum[:15]
	version := bytes.Clone(length)
	version[0] = 18
	short := version[:11]
	for _, c := range []struct {
		b []byte
		e api.Errno
	}{{field, api.ErrField}, {sum, api.ErrSum}, {length, api.ErrLength}, {version, api.ErrVersion}, {short, api.ErrShort}} {
		checkUnpack(t, c.b, api.Packet{}, c.e)
	}
	// and each pair of errors by itself
	shortVersion := numbers(18)
	versionSum := written(api.Packet{Off: 1, Data: some(4)})
	versionSum[0] = 15
	versionField := summed(append(numbers(18, 0, 0, 0, 0, 0, 0, 0, 16, 4, 0, 0), some(4)...))
	lengthField := summed(append(numbers(17, 0, 0, 0, 0, 0, 0, 0, 1, 8, 0, 0), some(3)...))
	fewPorts := summed(append(numbers(17, 0, 0, 0, 0, 0, 0, 0, 0, 3, 0, 0), some(3)...))
	for _, c := range []struct {
		b []byte
		e api.Errno
	}{{shortVersion, api.ErrShort}, {versionSum, api.ErrVersion}, {versionField, api.ErrVersion}, {lengthField, api.ErrLength}, {fewPorts, api.ErrLength}} {
		checkUnpack(t, c.b, api.Packet{}, c.e)
	}
}

// damaged: the bytes of a packet, with up to three faults.
func (s *source) damaged() []byte {
	b := written(s.packet())
	for range s.below(4) {
		switch s.below(6) {
		case 0:
			b = b[:s.below(len(b)+1)]
		case 1:
			b = append(b, s.bytes(s.below(5))...)
		case 2:
			if len(b) > 0 {
				b[s.below(len(b))] ^= 1 << s.below(8)
			}
		case 3:
			if len(b) >= 12 {
				b[9] = byte(len(b) - 12)
			}
		case 4:
			if len(b) >= 12 {
				b[8] = byte(s.below(18))
			}
		case 5:
			if len(b) >= 12 {
				b = summed(b)
			}
		}
	}
	return b
}

// TestP1AnyBytes: Unpack ends at all bytes, and answers by P4; what it takes, Pack writes again.
func TestP1AnyBytes(t *testing.T) {
	s := &source{2}
	seen := [8]int{}
	for i := range 60000 {
		b := s.damaged()
		if i%4 == 0 {
			b = s.bytes(s.below(60))
		}
		want, e := answer(b)
		seen[e]++
		checkUnpack(t, b, want, e)
		if e == api.OK {
			again, f := ferry.Pack(want)
			if f != api.OK || !bytes.Equal(again, b) {
				t.Errorf("P3, P4: Unpack(%v) is %v, and Pack of that %v, %d", b, want, again, f)
			}
		}
		if t.Failed() {
			return
		}
	}
	for _, e := range []api.Errno{api.OK, api.ErrShort, api.ErrVersion, api.ErrLength, api.ErrSum, api.ErrField} {
		if seen[e] < 100 {
			t.Errorf("only %d of the inputs are of error %d", seen[e], e)
		}
	}
}

// TestP1Ends: lists of nothing, and great ones.
func TestP1Ends(t *testing.T) {
	for _, n := range []int{0, 1, 11, 12, 13, 15, 16, 255, 256, 267, 268, 1 << 16, 1 << 22} {
		for _, first := range []byte{0, 16, 17, 255} {
			b := bytes.Repeat([]byte{first}, n)
			want, e := answer(b)
			checkUnpack(t, b, want, e)
			ferry.Hash(b)
			ferry.Pack(api.Packet{Data: b})
			ferry.Pack(api.Packet{Off: first, More: true, Data: b})
		}
	}
}
