package promises

import (
	"testing"

	"ferry/api"
)

// TestWords: errors, fates and bounds have the numbers that the document gives them.
func TestWords(t *testing.T) {
	for i, e := range []api.Errno{api.OK, api.ErrArg, api.ErrShort, api.ErrVersion, api.ErrLength, api.ErrSum, api.ErrField, api.ErrNone} {
		if int(e) != i {
			t.Errorf("the error %d has the number %d", i, e)
		}
	}
	for i, f := range []api.Fate{api.Delivered, api.Malformed, api.NoBackend, api.Overlap, api.Full, api.Lost, api.Timeout} {
		if int(f) != i {
			t.Errorf("the fate %d has the number %d", i, f)
		}
	}
	bounds := [10]int{api.MaxReplicas, api.MaxLife, api.MaxBackends, api.Slots, api.MaxEntries, api.MaxHeld, api.MaxData, api.MaxOff, api.Unit, api.Head}
	if bounds != [10]int{5, 20, 6, 31, 3, 48, 32, 15, 4, 12} {
		t.Errorf("the bounds are %v", bounds)
	}
}
