package promises

import (
	"bytes"
	"testing"

	"ferry/api"
	"ferry/ferry"
)

// pairs: packets and their bytes, worked out by hand.
func pairs() []struct {
	p api.Packet
	b []byte
} {
	return []struct {
		p api.Packet
		b []byte
	}{
		{api.Packet{Src: 1, Dst: 2, Proto: 6, Id: 7, Sport: 80, Dport: 443, Data: []byte("hi")}, numbers(16, 6, 0, 1, 0, 2, 0, 7, 0, 6, 239, 233, 0, 80, 1, 187, 104, 105)},
		{api.Packet{Src: 1, Dst: 2, Proto: 6, Id: 7, Off: 2, More: true, Data: []byte("abcd")}, numbers(17, 6, 0, 1, 0, 2, 0, 7, 2, 4, 236, 235, 97, 98, 99, 100)},
		{api.Packet{Src: 1, Dst: 2, Proto: 6, Id: 7, Sport: 80, Dport: 443}, numbers(16, 6, 0, 1, 0, 2, 0, 7, 0, 4, 239, 235, 0, 80, 1, 187)},
		// a first piece: More and ports; 4096+256+9 + 258 + 772 + 1286 + 8 = 6685
		{api.Packet{Src: 0x0102, Dst: 0x0304, Proto: 9, Id: 0x0506, More: true, Sport: 0x0708, Dport: 0x090a, Data: []byte("wxyz")}, numbers(17, 9, 1, 2, 3, 4, 5, 6, 0, 8, 0xe5, 0xe2, 7, 8, 9, 10, 119, 120, 121, 122)},
		// a last piece, its bytes no multiple of 4; 4096 + 0 + 0 + 0 + 3841 = 7937
		{api.Packet{Off: 15, Data: []byte{5}}, numbers(16, 0, 0, 0, 0, 0, 0, 0, 15, 1, 0xe0, 0xfe, 5)},
		// the sum is 65535, and is not folded
		{api.Packet{Src: 0xeffb}, numbers(16, 0, 0xef, 0xfb, 0, 0, 0, 0, 0, 4, 0, 0, 0, 0, 0, 0)},
		// the sum is 65536, and is folded to 1
		{api.Packet{Src: 0xeffc}, numbers(16, 0, 0xef, 0xfc, 0, 0, 0, 0, 0, 4, 255, 254, 0, 0, 0, 0)},
		// folded three times: 4096 + 3 times 65535 + 4 leaves 4100
		{api.Packet{Src: 65535, Dst: 65535, Id: 65535}, numbers(16, 0, 255, 255, 255, 255, 255, 255, 0, 4, 239, 251, 0, 0, 0, 0)},
	}
}

func TestP3P4Pairs(t *testing.T) {
	for _, c := range pairs() {
		b, e := ferry.Pack(c.p)
		if e != api.OK || !bytes.Equal(b, c.b) {
			t.Errorf("P3: Pack(%v) = %v, %d, want %v", c.p, b, e, c.b)
		}
		p, e := ferry.Unpack(c.b)
		if e != api.OK || !samePacket(p, c.p) {
			t.Errorf("P4: Unpack(%v) = %v, %d, want %v", c.b, p, e, c.p)
		}
	}
}

// checkPack: Pack(p) is what P3 says.
func checkPack(t *testing.T, p api.Packet) {
	t.Helper()
	b, e := ferry.Pack(p)
	if !mayBe(p) {
		if e != api.ErrField || len(b) != 0 {
			t.Errorf("P3: Pack(%v) = %v, %d, want ErrField", p, b, e)
		}
		return
	}
	if e != api.OK || !bytes.Equal(b, written(p)) {
		t.Errorf("P3: Pack(%v) = %v, %d, want %v", p, b, e, written(p))
	}
}

// checkUnpack: Unpack(b) is this.
func checkUnpack(t *testing.T, b []byte, want api.Packet, wantErr api.Errno) {
	t.Helper()
	p, e := ferry.Unpack(b)
	if e != wantErr || !samePacket(p, want) {
		t.Errorf("P4: Unpack(%.60v) = %v, %d, want %v, %d", b, p, e, want, wantErr)
	}
}

// TestP3P4AllForms: each Off, with and without More, each number of bytes up to some that are too many, with and without ports.
func TestP3P4AllForms(t *testing.T) {
	for off := range 256 {
		for n := range 70 {
			for form := range 8 {
				p := api.Packet{Src: 300, Dst: 4, Proto: 17, Id: 9, Off: uint8(off), More: form&1 != 0, Data: some(n)}
				p.Sport, p.Dport = uint16(form>>1&1), uint16(form>>2&1)
				checkPack(t, p)
				if off > 0 {
					p.Sport, p.Dport = 0, 0
				}
				if mayBe(p) {
					checkUnpack(t, written(p), p, api.OK)
				} else {
					checkUnpack(t, written(p), api.Packet{}, api.ErrField)
				}
				if t.Failed() {
					return
				}
			}
		}
	}
}

func TestP3FieldErrors(t *testing.T) {
	for _, p := range []api.Packet{
		{Data: some(33)}, {Off: 16, Data: some(4)}, {Off: 255, Data: some(4)}, {More: true, Data: some(3)}, {More: true}, {More: true, Data: some(36)},
		{Off: 1}, {Off: 1, More: true}, {Off: 1, Sport: 1, Data: some(4)}, {Off: 1, Dport: 1, Data: some(4)}, {Off: 1, Sport: 256, Data: some(4)},
		{Data: some(252)}, {Data: some(256)}, {More: true, Data: some(256)}, {Off: 2, Data: some(257)}, {Data: some(65536)}, {Off: 1, Data: some(1 << 20)},
	} {
		b, e := ferry.Pack(p)
		if e != api.ErrField || len(b) != 0 {
			t.Errorf("P3: Pack of Off %d, More %v, ports %d, %d, %d bytes: %d bytes, %d, want ErrField", p.Off, p.More, p.Sport, p.Dport, len(p.Data), len(b), e)
		}
	}
}

// TestP3P4ManyPackets: each field with all kinds of numbers.
func TestP3P4ManyPackets(t *testing.T) {
	s := &source{1}
	good := 0
	for range 20000 {
		p := s.packet()
		checkPack(t, p)
		if mayBe(p) {
			good++
			checkUnpack(t, written(p), p, api.OK)
		}
		if t.Failed() {
			return
		}
	}
	if good < 2000 || good > 18000 {
		t.Errorf("%d of 20000 packets are well-formed: the test does not try both kinds", good)
	}
}

func TestP4Errors(t *testing.T) {
	good := pairs()[0].b
	wrongSum := bytes.Clone(good)
	wrongSum[10] = 238
	for _, c := range []struct {
		b []byte
		e api.Errno
	}{
		{nil, api.ErrShort}, {[]byte{}, api.ErrShort}, {good[:1], api.ErrShort}, {good[:11], api.ErrShort}, {some(11), api.ErrShort},
		{make([]byte, 12), api.ErrVersion}, {make([]byte, 1000), api.ErrVersion}, {make([]byte, 1<<20), api.ErrVersion},
		{good[:len(good)-1], api.ErrLength}, {good[:12], api.ErrLength}, {append(bytes.Clone(good), 0), api.ErrLength},
		// 256 bytes more than the head says: a byte can't tell the difference
		{append(bytes.Clone(good), make([]byte, 256)...), api.ErrLength}, {append(bytes.Clone(good), make([]byte, 65536)...), api.ErrLength},
		{wrongSum, api.ErrSum},
		// a sum of 65535 is turned to 0, and 65535 does not stand for it
		{numbers(16, 0, 0xef, 0xfb, 0, 0, 0, 0, 0, 4, 255, 255, 0, 0, 0, 0), api.ErrSum},
		// the two bytes of the checksum changed over
		{numbers(16, 6, 0, 1, 0, 2, 0, 7, 0, 6, 233, 239, 0, 80, 1, 187, 104, 105), api.ErrSum},
	} {
		checkUnpack(t, c.b, api.Packet{}, c.e)
	}
}

// TestP4Versions: each first byte.
func TestP4Versions(t *testing.T) {
	for first := range 256 {
		b := written(api.Packet{Off: 3, Data: some(8)})
		b[0] = byte(first)
		b = summed(b)
		want, e := api.Packet{}, api.ErrVersion
		if first == 16 || first == 17 {
			want, e = api.Packet{Off: 3, More: first == 17, Data: some(8)}, api.OK
		}
		checkUnpack(t, b, want, e)
	}
}

// TestP4Lengths: each number in the head against each number of bytes behind it.
func TestP4Lengths(t *testing.T) {
	for _, off := range []uint8{0, 1} {
		for told := range 256 {
			for behind := range 300 {
				b := append(written(api.Packet{Off: off})[:12], some(behind)...)
				b[9] = byte(told)
				b = summed(b)
				_, e := ferry.Unpack(b)
				wrong := told != behind || off == 0 && behind < 4
				if wrong != (e == api.ErrLength) {
					t.Fatalf("P4: Unpack: Off %d, %d told, %d bytes behind the head: %d", off, told, behind, e)
				}
			}
		}
	}
}

// TestP4Sums: each checksum but the right one is refused.
func TestP4Sums(t *testing.T) {
	for _, c := range pairs() {
		b := bytes.Clone(c.b)
		right := int(b[10])<<8 + int(b[11])
		for sum := range 65536 {
			b[10], b[11] = byte(sum>>8), byte(sum)
			_, e := ferry.Unpack(b)
			if sum == right && e != api.OK || sum != right && e != api.ErrSum {
				t.Fatalf("P4: Unpack(%v) = %d; the right checksum is %d", b, e, right)
			}
		}
	}
}

// TestP4Body: the checksum is of the head alone.
func TestP4Body(t *testing.T) {
	for _, c := range pairs() {
		for i := 12; i < len(c.b); i++ {
			b := bytes.Clone(c.b)
			b[i] ^= 255
			_, e := ferry.Unpack(b)
			if e != api.OK {
				t.Errorf("P4: Unpack(%v) = %d, want OK", b, e)
			}
		}
	}
}
