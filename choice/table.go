package choice

import "ferry/api"

// Table is the table of choices of some backends: which of them has which slot.
func Table(backends []uint8) ([]uint8, api.Errno) {
	if len(backends) > api.MaxBackends {
		return nil, api.ErrArg
	}
	order := ascending(backends)
	if len(order) < len(backends) {
		return nil, api.ErrArg
	}
	if len(order) == 0 {
		return nil, api.ErrNone
	}
	table := make([]uint8, api.Slots)
	var taken [api.Slots]bool
	for given := 0; given < api.Slots; given++ {
		b := order[given%len(order)]
		slot := wanted(b, taken)
		table[slot] = b
		taken[slot] = true
	}
	return table, api.OK
}

// ascending has each backend once, so that it is shorter than a list that names one twice.
func ascending(backends []uint8) []uint8 {
	var order []uint8
	for n := 0; n < 256; n++ {
		b := uint8(n)
		if has(backends, b) {
			order = append(order, b)
		}
	}
	return order
}

func has(backends []uint8, b uint8) bool {
	for i := 0; i < len(backends); i++ {
		if backends[i] == b {
			return true
		}
	}
	return false
}

// wanted is the first free slot that b wants. Slots is a prime, so that b comes by all slots, whatever its step is.
func wanted(b uint8, taken [api.Slots]bool) int {
	first := Hash([]byte{b, 0})
	step := Hash([]byte{b, 1})
	slot := int(first % api.Slots)
	by := int(step%(api.Slots-1)) + 1
	for tries := 1; tries < api.Slots && taken[slot]; tries++ {
		slot = (slot + by) % api.Slots
	}
	return slot
}
