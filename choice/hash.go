// Package choice: the hash and the table by which packets come to backends and to owners (P5 to P7).
package choice

const (
	hashStart = 2166136261
	hashTimes = 16777619
)

// Hash is a number out of bytes.
func Hash(b []byte) uint32 {
	h := uint32(hashStart)
	for i := 0; i < len(b); i++ {
		h = (h ^ uint32(b[i])) * hashTimes
	}
	return h
}
