package mend

import (
	"runtime/debug"
	"testing"
)

// TestMain: going through orders makes many worlds that are of no use right behind, so the memory is gone through less often.
func TestMain(m *testing.M) {
	debug.SetGCPercent(400)
	m.Run()
}
