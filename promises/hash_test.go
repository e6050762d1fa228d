package promises

import (
	"hash/fnv"
	"testing"

	"ferry/ferry"
)

func TestP5Examples(t *testing.T) {
	for _, c := range []struct {
		b []byte
		h uint32
	}{
		{nil, 2166136261}, {[]byte{}, 2166136261}, {[]byte("a"), 3826002220}, {[]byte("ab"), 1294271946},
		{numbers(0), 84696351}, {numbers(1, 2, 3, 4, 5, 6, 7), 2971149911}, {numbers(255, 255, 255), 2405598420},
	} {
		h := ferry.Hash(c.b)
		if h != c.h {
			t.Errorf("P5: Hash(%v) = %d, want %d", c.b, h, c.h)
		}
	}
}

// TestP5Many: the library has the same rule, by another name.
func TestP5Many(t *testing.T) {
	s := &source{3}
	for n := range 600 {
		b := s.bytes(n)
		want := fnv.New32a()
		want.Write(b)
		h := ferry.Hash(b)
		if h != want.Sum32() {
			t.Errorf("P5: Hash of %d bytes %.20v = %d, want %d", n, b, h, want.Sum32())
		}
	}
}

// TestP5Bytes: each byte by itself, in big numbers, and each order counts.
func TestP5Bytes(t *testing.T) {
	for v := range 256 {
		want := uint32((2166136261 ^ uint64(v)) * 16777619 % (1 << 32))
		h := ferry.Hash([]byte{byte(v)})
		if h != want {
			t.Errorf("P5: Hash of the byte %d = %d, want %d", v, h, want)
		}
	}
	if ferry.Hash(numbers(1, 2)) == ferry.Hash(numbers(2, 1)) {
		t.Errorf("P5: Hash does not hang on the order of the bytes")
	}
	if ferry.Hash(numbers(1)) == ferry.Hash(numbers(1, 0)) {
		t.Errorf("P5: Hash does not hang on a byte 0 at the end")
	}
}
